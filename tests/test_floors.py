"""Points [23], [24]: floors, their shares, prices and squares, and gaps."""

import itertools
import unittest

from nearplane.errors import NoColumn, NotSure
from nearplane.fits import Fit
from nearplane.floors import floor, gap
from nearplane.ratios import NOUGHT, ONE, less, minus
from nearplane.rows import is_row, scaled
from tests.things import (
    as_fraction, as_ratio, columns_of, kinds_of_anything, label, plain_dot, plain_squares, points_by, points_of,
    rows_of, some_table, trial_fits, values_by,
)

# The told shares are 2 and -1, by weights that are not 1.
FALLING = ["1,0 2 3", "0,1 -1 1/2", "1,1 1 2"]


def sets_of(columns):
    return [list(some) for many in range(len(columns) + 1) for some in itertools.combinations(columns, many)]


def trial_floors():
    """Points, wide and marked columns, of fits without free columns."""
    told = [(points, wide) for points, wide in trial_fits() if not Fit(points, wide).free() and wide < 6]
    told += [(points_by(some_table(seed + 40, 6, 4), seed), 4) for seed in range(6)]
    # Where columns lie near to one another, one that was held is let go again on the way.
    told += [(points_by([[ONE] + scaled(row, (1, 9)) for row in some_table(seed, 6, 3)], seed), 4)
             for seed in range(60, 66)]
    told = [(points, wide) for points, wide in told if not Fit(points, wide).free()]
    return [(points, wide, marked) for points, wide in told for marked in sets_of(range(wide))]


def below(shares, marked):
    return any(less(shares[k], NOUGHT) for k in marked)


def prices_by(points, wide, shares):
    """Nought less the weighted dot of each column with what the shares leave."""
    left = [minus(want, value) for (_, want, _), value in zip(points, values_by(points, shares), strict=True)]
    weights = [weight for _, _, weight in points]
    return [as_ratio(-plain_dot(column, left, weights)) for column in columns_of(points, wide)]


def floor_by_all_choices(points, wide, marked):
    """The nearest of the fits that leave out some marked columns and are not below nought at the others."""
    found = []
    for held in sets_of(marked):
        kept = [k for k in range(wide) if k not in held]
        fit = Fit([([row[k] for k in kept], want, weight) for row, want, weight in points], len(kept))
        shares = [NOUGHT] * wide
        for k, share in zip(kept, fit.told()):
            shares[k] = share
        if not below(shares, marked):
            found.append((as_fraction(plain_squares(points, shares)), shares))
    return min(found, key=lambda pair: pair[0])[1]


class Floor(unittest.TestCase):
    def check_each(self, check):
        for points, wide, marked in trial_floors():
            with self.subTest(points=points, wide=wide, marked=marked):
                check(points, wide, marked, floor(Fit(points, wide), marked))

    def test_plain_ones(self):
        fit = Fit(points_of(*FALLING), 2)
        self.assertEqual(fit.told(), rows_of("2,-1")[0])
        self.assertEqual(floor(fit, []), (rows_of("2,-1")[0], rows_of("0,0")[0], NOUGHT))
        self.assertEqual(floor(fit, [0]), (rows_of("2,-1")[0], rows_of("0,0")[0], NOUGHT))
        self.assertEqual(floor(fit, [1]), (rows_of("8/5,0")[0], rows_of("0,17/10")[0], (17, 10)))
        self.assertEqual(floor(fit, [0, 1]), (rows_of("8/5,0")[0], rows_of("0,17/10")[0], (17, 10)))

    def test_all_held_at_nought(self):
        fit = Fit(points_of("1,0 -1 2", "0,1 -3"), 2)
        self.assertEqual(floor(fit, [0, 1]), (rows_of("0,0")[0], rows_of("2,3")[0], (11, 1)))
        self.assertEqual(floor(fit, [1]), (rows_of("-1,0")[0], rows_of("0,3")[0], (9, 1)))

    def test_a_share_of_nought_at_a_marked_column_may_have_the_price_nought(self):
        fit = Fit(points_of("1,0 0", "0,1 5"), 2)
        self.assertEqual(floor(fit, [0, 1]), (rows_of("0,5")[0], rows_of("0,0")[0], NOUGHT))
        self.assertEqual(gap(fit, [0, 1]), NOUGHT)

    def test_without_points_and_columns(self):
        self.assertEqual(floor(Fit([], 0), []), ([], [], NOUGHT))
        self.assertEqual(gap(Fit([], 0), []), NOUGHT)
        fit = Fit(points_of(" 2 3"), 0)
        self.assertEqual([floor(fit, []), gap(fit, [])], [([], [], (12, 1)), NOUGHT])

    def test_the_form_of_what_is_told(self):
        def check(points, wide, marked, told):
            self.assertEqual([type(told), len(told)], [tuple, 3])
            self.assertTrue(is_row(told[0], wide) and is_row(told[1], wide))
        self.check_each(check)

    def test_shares_at_marked_columns_are_not_below_nought(self):
        def check(points, wide, marked, told):
            self.assertFalse(below(told[0], marked))
        self.check_each(check)

    def test_prices(self):
        seen = set()

        def check(points, wide, marked, told):
            self.assertEqual(told[1], prices_by(points, wide, told[0]))
            for k, price in enumerate(told[1]):
                if k not in marked or told[0][k] != NOUGHT:
                    self.assertEqual(price, NOUGHT)
                self.assertFalse(less(price, NOUGHT))
                seen.add((k in marked, price == NOUGHT))
        self.check_each(check)
        self.assertEqual(seen, {(True, True), (True, False), (False, True)})

    def test_squares(self):
        def check(points, wide, marked, told):
            self.assertEqual(told[2], plain_squares(points, told[0]))
        self.check_each(check)

    def test_it_is_the_nearest_of_all_choices_of_held_columns(self):
        def check(points, wide, marked, told):
            self.assertEqual(told[0], floor_by_all_choices(points, wide, marked))
        self.check_each(check)

    def test_where_nothing_is_below_nought_it_is_the_fit(self):
        def check(points, wide, marked, told):
            fit = Fit(points, wide)
            if not below(fit.told(), marked):
                self.assertEqual(told, (fit.told(), [NOUGHT] * wide, fit.squares()))
        self.check_each(check)

    def test_twelve_columns(self):
        points = points_by(some_table(9, 14, 12), 8)
        fit = Fit(points, 12)
        for marked in (list(range(12)), [0, 3, 7, 11], [11], []):
            shares, prices, squares = floor(fit, marked)
            self.assertEqual(prices, prices_by(points, 12, shares))
            self.assertFalse(below(shares, marked) or below(prices, range(12)))
            self.assertTrue(all(prices[k] == NOUGHT for k in range(12) if k not in marked or shares[k] != NOUGHT))
            self.assertEqual(squares, plain_squares(points, shares))


class Gap(unittest.TestCase):
    def test_plain_ones(self):
        fit = Fit(points_of(*FALLING), 2)
        self.assertEqual([gap(fit, marked) for marked in ([], [0], [1], [0, 1])], rows_of("0,0,17/10,17/10")[0])
        fit = Fit(points_of("1 -1", "1 -2"), 1)
        self.assertEqual([fit.squares(), floor(fit, [0])[2], gap(fit, [0])], rows_of("1/2,5,9/2")[0])

    def test_by_how_much_the_squares_are_greater(self):
        seen = set()
        for points, wide, marked in trial_floors():
            with self.subTest(points=points, wide=wide, marked=marked):
                fit = Fit(points, wide)
                told = gap(fit, marked)
                self.assertEqual(told, minus(floor(fit, marked)[2], fit.squares()))
                self.assertIs(told == NOUGHT, not below(fit.told(), marked))
                self.assertFalse(less(told, NOUGHT))
                seen.add(told == NOUGHT)
        self.assertEqual(seen, {True, False})


class Refused(unittest.TestCase):
    def check_refused(self, error, fit, marked):
        for call in (floor, gap):
            with self.subTest(call.__name__, marked=label(marked)):
                with self.assertRaises(error):
                    call(fit, marked)

    def strange(self):
        """What marks no columns of a fit with three of them."""
        lists = [
            [3], [-1], [0, 3], [-1, 0], [0, 0], [1, 1], [0, 1, 1], [1, 0], [2, 1], [0, 2, 1], [10 ** 200],
            [True], [False], [0, True], [False, True], [None], [0, None], ["0"], [[0]], [ONE], [NOUGHT],
            [0, 1, 2, 3], [0, 1, 2, 2],
        ]
        return lists + kinds_of_anything() + [(0,), (0, 1), "", "0", "01", 0, 1, -1]

    def test_what_is_no_list_of_rising_columns(self):
        fit = Fit(points_by(some_table(4, 5, 3), 1), 3)
        self.assertEqual(fit.free(), [])
        for marked in self.strange() + [[thing] for thing in kinds_of_anything()]:
            self.check_refused(NoColumn, fit, marked)
        for marked in ([0], [-1], (), None):
            self.check_refused(NoColumn, Fit([], 0), marked)

    def test_free_columns(self):
        fits = [Fit([], 3), Fit(points_of("1,2,3 4"), 3), Fit(points_of("1,0,0 1", "0,1,0 1", "0,0,0 1"), 3)]
        for fit in fits:
            for marked in ([], [0], [1], [0, 1, 2], [0, 2]):
                self.check_refused(NotSure, fit, marked)
            # Marked columns are looked at ahead of free ones.
            for marked in self.strange():
                self.check_refused(NoColumn, fit, marked)


if __name__ == "__main__":
    unittest.main()
