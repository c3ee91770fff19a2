"""Point [4]: ratios; and what a whole number is, of point [2]."""

import unittest

from nearplane.errors import NoRatio, PlaneError
from nearplane.ratios import NOUGHT, ONE, is_ratio, is_whole, less, minus, over, plus, ratio, times
from tests.things import LARGE, RATIOS, SIXTY, as_fraction, as_ratio, kinds_of_anything, label


class Wholes(unittest.TestCase):
    def test_ints_are_whole(self):
        for thing in (0, 1, -1, 7, 10 ** 299, -(10 ** 299)):
            self.assertIs(is_whole(thing), True)

    def test_truths_are_not(self):
        self.assertIs(is_whole(True), False)
        self.assertIs(is_whole(False), False)

    def test_nothing_else_is(self):
        for thing in kinds_of_anything() + ["", "1", [], [1], [(1, 1)], (1, 1)]:
            with self.subTest(label(thing)):
                self.assertIs(is_whole(thing), False)


class Ratios(unittest.TestCase):
    def test_constants(self):
        self.assertEqual((NOUGHT, ONE), ((0, 1), (1, 1)))
        for one in (NOUGHT, ONE):
            self.assertIs(is_ratio(one), True)

    def test_pairs_in_lowest_terms_are_ratios(self):
        for thing in ((0, 1), (1, 1), (-1, 1), (1, 2), (-3, 2), (4, 9), (10 ** 299, 10 ** 299 + 1), (-(10 ** 299), 3)):
            self.assertIs(is_ratio(thing), True)

    def test_nothing_else_is_one(self):
        for thing in kinds_of_anything() + ["", "1", "1/2", "12", 0, 1, -1, [], [1, 1], [1, 2], [(1, 1)]]:
            with self.subTest(label(thing)):
                self.assertIs(is_ratio(thing), False)

    def test_a_great_number_in_common_is_found(self):
        self.assertIs(is_ratio((SIXTY * LARGE, SIXTY)), False)
        self.assertIs(is_ratio((-2 * SIXTY, 3 * SIXTY)), False)

    def test_told_kinds(self):
        for one in (ratio(4, -6), plus(ONE, ONE), minus(ONE, ONE), times(ONE, ONE), over(ONE, ONE)):
            self.assertIs(type(one), tuple)
            self.assertEqual([type(part) for part in one], [int, int])


class Making(unittest.TestCase):
    def test_small_ones(self):
        told = {
            (6, 4): (3, 2), (-6, 4): (-3, 2), (6, -4): (-3, 2), (-6, -4): (3, 2), (4, 2): (2, 1),
            (2, 4): (1, 2), (1, 1): (1, 1), (1, -1): (-1, 1), (-1, -1): (1, 1), (5, 7): (5, 7), (-9, 3): (-3, 1),
        }
        for pair, one in told.items():
            self.assertEqual(ratio(pair[0], pair[1]), one)

    def test_all_of_a_small_square(self):
        for top in range(-30, 31):
            for bottom in list(range(-30, 0)) + list(range(1, 31)):
                one = ratio(top, bottom)
                self.assertTrue(is_ratio(one))
                self.assertEqual(one[0] * bottom, top * one[1])

    def test_nought(self):
        for bottom in (1, -1, 2, -7, SIXTY, -LARGE):
            self.assertEqual(ratio(0, bottom), (0, 1))

    def test_large_ones_with_a_number_in_common(self):
        common = 10 ** 80 + 129
        self.assertEqual(ratio(3 * common, 7 * common), (3, 7))
        self.assertEqual(ratio(-3 * common, 7 * common), (-3, 7))
        self.assertEqual(ratio(3 * common, -7 * common), (-3, 7))
        self.assertEqual(ratio(-common * 2 ** 90, -common), (2 ** 90, 1))
        self.assertEqual(ratio(SIXTY, SIXTY + 1), (SIXTY, SIXTY + 1))

    def test_over_a_bottom_of_nought_is_refused(self):
        for top in (0, 1, -1, SIXTY):
            for refusal in (NoRatio, PlaneError, ValueError):
                with self.assertRaises(refusal):
                    ratio(top, 0)


class Reckoning(unittest.TestCase):
    def test_plain_sums(self):
        self.assertEqual(plus((1, 2), (1, 2)), (1, 1))
        self.assertEqual(plus((1, 6), (1, 3)), (1, 2))
        self.assertEqual(minus((1, 3), (1, 2)), (-1, 6))
        self.assertEqual(minus((1, 2), (1, 2)), (0, 1))
        self.assertEqual(times((2, 3), (3, 2)), (1, 1))
        self.assertEqual(times((0, 1), (3, 2)), (0, 1))
        self.assertEqual(over((1, 2), (-3, 4)), (-2, 3))
        self.assertEqual(over((0, 1), (-3, 4)), (0, 1))

    def test_each_pair_against_fractions(self):
        for one in RATIOS:
            for other in RATIOS:
                left, right = as_fraction(one), as_fraction(other)
                self.assertEqual(plus(one, other), as_ratio(left + right))
                self.assertEqual(minus(one, other), as_ratio(left - right))
                self.assertEqual(times(one, other), as_ratio(left * right))
                if right != 0:
                    self.assertEqual(over(one, other), as_ratio(left / right))

    def test_over_nought_is_refused(self):
        for one in RATIOS:
            for refusal in (NoRatio, PlaneError, ValueError):
                with self.assertRaises(refusal):
                    over(one, NOUGHT)


class Order(unittest.TestCase):
    def test_each_pair_against_fractions(self):
        for one in RATIOS:
            for other in RATIOS:
                self.assertIs(less(one, other), as_fraction(one) < as_fraction(other))

    def test_none_is_less_than_itself(self):
        for one in RATIOS:
            self.assertIs(less(one, one), False)

    def test_negative_ones(self):
        self.assertIs(less((-1, 2), (-1, 3)), True)
        self.assertIs(less((-1, 3), (-1, 2)), False)
        self.assertIs(less((-5, 1), (1, 100)), True)
        self.assertIs(less((1, 100), (-5, 1)), False)
        self.assertIs(less((-1, 9), NOUGHT), True)

    def test_ones_that_differ_little(self):
        nearer, farther = (LARGE + 1, LARGE + 2), (LARGE, LARGE + 1)
        self.assertIs(less(farther, nearer), True)
        self.assertIs(less(nearer, farther), False)
        self.assertIs(less((-LARGE - 1, LARGE + 2), (-LARGE, LARGE + 1)), True)


if __name__ == "__main__":
    unittest.main()
