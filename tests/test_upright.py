"""Points [12], [13]: left parts, nearest mixes, dots and squares."""

import unittest

from nearplane.equations import measure, reduced
from nearplane.ratios import NOUGHT, ONE, less, times
from nearplane.rows import added, is_row, is_still, mixed, scaled, taken
from nearplane.tables import product, turned, unit
from nearplane.upright import dots, lefts, nearest, square
from tests.things import as_ratio, hanging_table, plain_dot, rows_of, some_row, some_table, some_weights

WEIGHTS = rows_of("2,1/3,5")[0]
PLAIN = rows_of("1,1,1")[0]


def trial_rows():
    """Pairs of rows and weights: with free rows first, last and between, of noughts, none, of no things."""
    told = [(some_table(seed, many, 4), some_weights(seed, 4)) for seed, many in enumerate((0, 1, 2, 3, 4, 5, 7))]
    told += [(hanging_table(seed, 5, 4, rank), some_weights(seed, 4)) for seed in range(3) for rank in range(4)]
    told += [(some_table(5, many, 1), some_weights(5, 1)) for many in range(4)]
    told += [([[]] * many, []) for many in range(4)]
    rows = some_table(8, 3, 5)
    still = [NOUGHT] * 5
    mix = mixed(rows[:2], [(3, 1), (-1, 2)], 5)
    for more in ([still] + rows, rows + [still], rows[:2] + [mix, rows[2], mix], [rows[0], rows[0], rows[1], rows[0]]):
        told += [(more, [ONE] * 5), (more, some_weights(9, 5))]
    return told


def is_free_at(rows, k):
    """Whether row k is a mix of those ahead of it, told by how many first things there are."""
    wide = len(rows[k])
    return len(reduced(rows[:k], wide)[2]) == len(reduced(rows[:k + 1], wide)[2])


class Upright(unittest.TestCase):
    def check_shares(self, rows, shares):
        self.assertTrue(is_row(shares, len(rows)))
        for k in range(len(rows)):
            if is_free_at(rows, k):
                self.assertEqual(shares[k], NOUGHT)

    def check_upright(self, rows, left, weights):
        self.assertTrue(is_row(left, len(weights)))
        for row in rows:
            self.assertEqual(plain_dot(row, left, weights), 0)


class Lefts(Upright):
    def test_plain_ones(self):
        told = lefts(rows_of("1,1,0", "1,0,0", "0,1,0", "1,1,1"), PLAIN)
        self.assertEqual([part[0] for part in told], rows_of("1,1,0", "1/2,-1/2,0", "0,0,0", "0,0,1"))
        self.assertEqual([part[1] for part in told], rows_of("", "1/2", "1,-1", "1,0,0"))

    def test_by_weights_that_are_not_1(self):
        told = lefts(rows_of("1,1,0", "1,0,0"), WEIGHTS)
        self.assertEqual(told, [(rows_of("1,1,0")[0], []), (rows_of("1/7,-6/7,0")[0], [(6, 7)])])

    def test_each_row_is_its_left_part_and_the_mix_of_the_rows_ahead(self):
        for rows, weights in trial_rows():
            with self.subTest(rows=rows, weights=weights):
                told = lefts(rows, weights)
                self.assertIs(type(told), list)
                self.assertEqual(len(told), len(rows))
                for k, part in enumerate(told):
                    self.assertEqual([type(part), len(part)], [tuple, 2])
                    left, shares = part
                    self.check_shares(rows[:k], shares)
                    self.check_upright(rows[:k], left, weights)
                    self.assertEqual(added(left, mixed(rows[:k], shares, len(weights))), rows[k])
                    self.assertIs(is_still(left), is_free_at(rows, k))

    def test_left_parts_are_upright_on_one_another(self):
        for rows, weights in trial_rows():
            parts = [left for left, _ in lefts(rows, weights)]
            for k, left in enumerate(parts):
                self.check_upright(parts[:k], left, weights)

    def test_free_rows_ahead_have_the_share_nought(self):
        rows = rows_of("0,0,0", "1,2,0", "2,4,0", "0,1,0", "1,0,0", "5,6,7")
        told = lefts(rows, WEIGHTS)
        self.assertEqual([is_still(left) for left, _ in told], [True, False, True, False, True, False])
        self.assertEqual([shares for _, shares in told][2], rows_of("0,2")[0])
        self.assertEqual([shares for _, shares in told][4], rows_of("0,1,0,-2")[0])
        self.assertEqual([shares for _, shares in told][5], rows_of("0,5,0,-4,0")[0])

    def test_no_rows_and_rows_of_no_things(self):
        self.assertEqual(lefts([], PLAIN), [])
        self.assertEqual(lefts([], []), [])
        self.assertEqual(lefts([[], [], []], []), [([], []), ([], [NOUGHT]), ([], [NOUGHT, NOUGHT])])

    def test_rows_upright_already_stay(self):
        for part, row in zip(lefts(unit(4), some_weights(1, 4)), unit(4)):
            self.assertEqual(part[0], row)
            self.assertTrue(is_still(part[1]))


class Nearest(Upright):
    def test_plain_ones(self):
        told = nearest(rows_of("1,1,1", "0,1,2"), rows_of("1,0,3")[0], PLAIN)
        self.assertEqual(told, (rows_of("1/3,1")[0], rows_of("2/3,-4/3,2/3")[0]))
        told = nearest(rows_of("1,1,0"), rows_of("1,0,4")[0], WEIGHTS)
        self.assertEqual(told, (rows_of("6/7")[0], rows_of("1/7,-6/7,4")[0]))

    def test_the_rest_is_what_the_mix_leaves_and_upright_on_each_row(self):
        for seed, (rows, weights) in enumerate(trial_rows()):
            row = some_row(seed, len(weights))
            with self.subTest(rows=rows, row=row, weights=weights):
                told = nearest(rows, row, weights)
                self.assertEqual([type(told), len(told)], [tuple, 2])
                shares, rest = told
                self.check_shares(rows, shares)
                self.check_upright(rows, rest, weights)
                self.assertEqual(taken(row, mixed(rows, shares, len(weights))), rest)

    def test_other_mixes_come_no_nearer(self):
        for seed, (rows, weights) in enumerate(trial_rows()):
            row = some_row(seed + 50, len(weights))
            shares, rest = nearest(rows, row, weights)
            other = mixed(rows, added(shares, some_row(seed, len(rows))), len(weights))
            moved = taken(other, mixed(rows, shares, len(weights)))
            farther = square(taken(row, other), weights)
            self.assertFalse(less(farther, square(rest, weights)))
            self.assertIs(less(square(rest, weights), farther), not is_still(moved))

    def test_a_row_that_is_a_mix_leaves_nothing(self):
        for seed, (rows, weights) in enumerate(trial_rows()):
            row = mixed(rows, some_row(seed, len(rows)), len(weights))
            shares, rest = nearest(rows, row, weights)
            self.assertTrue(is_still(rest))
            self.assertEqual(mixed(rows, shares, len(weights)), row)

    def test_free_rows_among_them(self):
        rows = rows_of("0,0,0", "1,2,0", "2,4,0", "0,1,0", "1,0,0")
        self.assertEqual(nearest(rows, rows_of("5,6,7")[0], WEIGHTS), (rows_of("0,5,0,-4,0")[0], rows_of("0,0,7")[0]))

    def test_no_rows_and_rows_of_no_things(self):
        row = rows_of("1,-2/3,0")[0]
        self.assertEqual(nearest([], row, WEIGHTS), ([], row))
        self.assertEqual(nearest([], [], []), ([], []))
        self.assertEqual(nearest([[], []], [], []), ([NOUGHT, NOUGHT], []))


class Dots(Upright):
    def test_plain_ones(self):
        rows = rows_of("1,1,0", "0,3,1/5")
        self.assertEqual(dots(rows, PLAIN), rows_of("2,3", "3,226/25"))
        self.assertEqual(dots(rows, WEIGHTS), rows_of("7/3,1", "1,16/5"))

    def test_thing_by_thing_and_the_same_turned(self):
        for rows, weights in trial_rows():
            told = dots(rows, weights)
            self.assertEqual(told, [[as_ratio(plain_dot(one, other, weights)) for other in rows] for one in rows])
            self.assertEqual(turned(told, len(rows)), told)
            self.assertEqual(len({id(row) for row in told}), len(rows))

    def test_without_weights_it_is_the_product_with_the_turned_rows(self):
        rows = some_table(4, 3, 5)
        self.assertEqual(dots(rows, [ONE] * 5), product(rows, turned(rows, 5), 3))

    def test_no_rows_and_rows_of_no_things(self):
        self.assertEqual(dots([], WEIGHTS), [])
        self.assertEqual(dots([[], []], []), rows_of("0,0", "0,0"))

    def test_their_measure_is_the_product_of_the_squares_of_the_left_parts(self):
        seen = []
        for rows, weights in trial_rows():
            told = ONE
            for left, _ in lefts(rows, weights):
                told = times(told, square(left, weights))
            self.assertEqual(measure(dots(rows, weights)), told)
            seen.append(told == NOUGHT)
        self.assertEqual({True, False}, set(seen))


class Square(Upright):
    def test_plain_ones(self):
        self.assertEqual(square(rows_of("1,-2,1/2")[0], PLAIN), (21, 4))
        self.assertEqual(square(rows_of("1,-2,1/2")[0], WEIGHTS), (55, 12))
        self.assertEqual(square(rows_of("0,0,0")[0], WEIGHTS), NOUGHT)
        self.assertEqual(square([], []), NOUGHT)

    def test_against_fractions(self):
        for seed in range(10):
            row, weights = some_row(seed, 6), some_weights(seed, 6)
            self.assertEqual(square(row, weights), as_ratio(plain_dot(row, row, weights)))
            self.assertEqual(square(scaled(row, (-3, 2)), weights), times(square(row, weights), (9, 4)))


if __name__ == "__main__":
    unittest.main()
