"""Point [6]: rows."""

import unittest

from nearplane.ratios import NOUGHT, ONE
from nearplane.rows import added, dot, is_row, is_still, mixed, scaled, taken
from tests.things import LARGE, RATIOS, as_fraction, as_ratio, fractions_of, kinds_of_anything, label

ONE_ROW = [(1, 2), (-1, 3), (0, 1)]
OTHER_ROW = [(1, 2), (1, 6), (-5, 1)]
WEIGHTS = [(2, 1), (1, 3), (7, 5)]


class IsRow(unittest.TestCase):
    def test_rows_of_their_length(self):
        self.assertIs(is_row([], 0), True)
        self.assertIs(is_row([(1, 2)], 1), True)
        self.assertIs(is_row(ONE_ROW, 3), True)
        self.assertIs(is_row(list(RATIOS), len(RATIOS)), True)

    def test_lengths_too_great_and_too_small(self):
        self.assertIs(is_row(ONE_ROW, 2), False)
        self.assertIs(is_row(ONE_ROW, 4), False)
        self.assertIs(is_row(ONE_ROW, 0), False)
        self.assertIs(is_row([], 1), False)

    def test_one_thing_that_is_no_ratio(self):
        for thing in kinds_of_anything() + ["", "1", 0, 1, [], [1, 2], [(1, 1)]]:
            for row in ([thing], [thing, ONE], [ONE, thing], [ONE, thing, ONE]):
                with self.subTest(label(thing)):
                    self.assertIs(is_row(row, len(row)), False)

    def test_what_is_no_list(self):
        for thing in kinds_of_anything() + ["", "1", "12", 0, 1, (ONE, ONE), (ONE,), {0: ONE}]:
            for long in (0, 1, 2):
                with self.subTest(label(thing), long=long):
                    self.assertIs(is_row(thing, long), False)


class ThingByThing(unittest.TestCase):
    def test_sum(self):
        self.assertEqual(added(ONE_ROW, OTHER_ROW), [(1, 1), (-1, 6), (-5, 1)])

    def test_difference_is_one_less_other(self):
        self.assertEqual(taken(ONE_ROW, OTHER_ROW), [(0, 1), (-1, 2), (5, 1)])
        self.assertEqual(taken(OTHER_ROW, ONE_ROW), [(0, 1), (1, 2), (-5, 1)])

    def test_a_row_times_a_ratio(self):
        self.assertEqual(scaled(ONE_ROW, (-3, 2)), [(-3, 4), (1, 2), (0, 1)])
        self.assertEqual(scaled(ONE_ROW, NOUGHT), [NOUGHT, NOUGHT, NOUGHT])
        self.assertEqual(scaled(ONE_ROW, ONE), ONE_ROW)

    def test_rows_of_no_things(self):
        self.assertEqual(added([], []), [])
        self.assertEqual(taken([], []), [])
        self.assertEqual(scaled([], (1, 2)), [])

    def test_long_rows_against_fractions(self):
        one, other = list(RATIOS), list(reversed(RATIOS))
        pairs = list(zip(fractions_of(one), fractions_of(other)))
        self.assertEqual(added(one, other), [as_ratio(left + right) for left, right in pairs])
        self.assertEqual(taken(one, other), [as_ratio(left - right) for left, right in pairs])
        for by in RATIOS:
            self.assertEqual(scaled(one, by), [as_ratio(left * as_fraction(by)) for left, right in pairs])


class Dots(unittest.TestCase):
    def test_without_weights(self):
        self.assertEqual(dot(ONE_ROW, OTHER_ROW), (7, 36))
        self.assertEqual(dot(ONE_ROW, OTHER_ROW, None), (7, 36))
        self.assertEqual(dot(ONE_ROW, OTHER_ROW, weights=None), (7, 36))

    def test_by_weights(self):
        self.assertEqual(dot(ONE_ROW, OTHER_ROW, WEIGHTS), (13, 27))
        self.assertEqual(dot([ONE, ONE], [ONE, ONE], weights=[(1, 2), (5, 1)]), (11, 2))
        self.assertEqual(dot(ONE_ROW, OTHER_ROW, [ONE, ONE, ONE]), dot(ONE_ROW, OTHER_ROW))

    def test_rows_of_no_things(self):
        self.assertEqual(dot([], []), (0, 1))
        self.assertEqual(dot([], [], None), (0, 1))
        self.assertEqual(dot([], [], []), (0, 1))

    def test_one_that_comes_to_nought(self):
        self.assertEqual(dot([(1, 3), (1, 2)], [(3, 1), (-2, 1)]), (0, 1))

    def test_long_rows_against_fractions(self):
        one, other = list(RATIOS), list(reversed(RATIOS))
        weights = [(k + 1, LARGE if k == 3 else 1) for k in range(len(RATIOS))]
        weights = [as_ratio(as_fraction(weight)) for weight in weights]
        products = [left * right for left, right in zip(fractions_of(one), fractions_of(other))]
        self.assertEqual(dot(one, other), as_ratio(sum(products)))
        weighted = [product * weight for product, weight in zip(products, fractions_of(weights))]
        self.assertEqual(dot(one, other, weights), as_ratio(sum(weighted)))


class Mixes(unittest.TestCase):
    def test_several_rows(self):
        rows = [ONE_ROW, OTHER_ROW, WEIGHTS]
        self.assertEqual(mixed(rows, [(2, 1), (-1, 1), (1, 2)], 3), [(3, 2), (-2, 3), (57, 10)])
        self.assertEqual(mixed(rows, [NOUGHT, NOUGHT, NOUGHT], 3), [NOUGHT, NOUGHT, NOUGHT])
        self.assertEqual(mixed(rows, [NOUGHT, ONE, NOUGHT], 3), OTHER_ROW)

    def test_more_rows_than_things_and_fewer(self):
        self.assertEqual(mixed([[(1, 1)], [(2, 1)], [(3, 1)]], [(1, 2), (1, 4), (1, 3)], 1), [(2, 1)])
        self.assertEqual(mixed([ONE_ROW, OTHER_ROW], [ONE, ONE], 3), added(ONE_ROW, OTHER_ROW))

    def test_one_row(self):
        self.assertEqual(mixed([ONE_ROW], [(3, 1)], 3), [(3, 2), (-1, 1), (0, 1)])

    def test_no_rows(self):
        for long in (0, 1, 2, 12):
            self.assertEqual(mixed([], [], long), [(0, 1)] * long)

    def test_rows_of_no_things(self):
        self.assertEqual(mixed([[], []], [ONE, (1, 2)], 0), [])


class Still(unittest.TestCase):
    def test_noughts_alone(self):
        for long in (0, 1, 2, 12):
            self.assertIs(is_still([NOUGHT] * long), True)
        self.assertIs(is_still(taken(ONE_ROW, ONE_ROW)), True)

    def test_one_other_thing_at_each_place(self):
        for thing in (ONE, (-1, 1), (1, LARGE), (-1, LARGE)):
            for place in range(4):
                row = [NOUGHT] * 4
                row[place] = thing
                self.assertIs(is_still(row), False)
            self.assertIs(is_still([thing]), False)


if __name__ == "__main__":
    unittest.main()
