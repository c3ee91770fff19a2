"""Point [3]: the promise over the whole program."""

import itertools
import unittest

from nearplane.desk import Desk
from nearplane.fits import Fit
from nearplane.floors import floor
from nearplane.planes import Plane
from nearplane.ratios import NOUGHT, ONE, less, minus, plus, times
from nearplane.rows import added, mixed, scaled, taken
from nearplane.texts import shown, shown_row
from tests.things import (
    as_fraction, columns_of, laid, plain_dot, plain_squares, points_by, points_of, some_row, some_table, trial_fits,
    unit_rows, values_by,
)

ORDERS = list(itertools.permutations(range(4)))
FOUR = points_of("1,2,1 3 2", "0,1,1 -1 1/3", "2,1,-1 5", "1,2,1 0 7/2")


def told_of(plane):
    return [plane.width(), plane.sums(), plane.told(), plane.free(), plane.ways(), plane.squares()]


def by_points(plane):
    """What is told of each point: rest, pull and the word of the others, by what the point is."""
    fit = plane.fit()
    told = []
    for k, point in enumerate(plane.points()):
        told.append((point[1:], fit.rests()[k], fit.pulls()[k], fit.word(k)))
    return sorted(told, key=repr)


def kept_from_nought_up(shares, marked):
    return [(abs(share[0]), share[1]) if k in marked else share for k, share in enumerate(shares)]


class Nearest(unittest.TestCase):
    def check_each(self, check):
        for seed, (points, wide) in enumerate(trial_fits()):
            with self.subTest(points=points, wide=wide):
                check(seed, points, wide, Fit(points, wide))

    def test_rests_are_upright_on_each_column(self):
        def check(seed, points, wide, fit):
            weights = [weight for _, _, weight in points]
            for column in columns_of(points, wide):
                self.assertEqual(plain_dot(column, fit.rests(), weights), 0)
        self.check_each(check)

    def test_with_any_other_shares_the_squares_are_greater_by_just_how_far_off_they_are(self):
        def check(seed, points, wide, fit):
            tried = some_table(seed + 9, 4, wide) + unit_rows(wide) + [[NOUGHT] * wide]
            for shares in tried + [added(fit.told(), row) for row in tried]:
                off = fit.off(shares)
                self.assertFalse(less(off, NOUGHT))
                self.assertEqual(plain_squares(points, shares), plus(fit.squares(), off))
                moved = taken(values_by(points, shares), values_by(points, fit.told()))
                self.assertEqual(as_fraction(off), plain_dot(moved, moved, [weight for _, _, weight in points]))
        self.check_each(check)

    def test_all_shares_that_come_as_near_are_the_told_ones_and_a_mix_of_the_ways(self):
        seen = set()

        def check(seed, points, wide, fit):
            near = added(fit.told(), mixed(fit.ways(), some_row(seed, len(fit.ways())), wide))
            self.assertEqual(fit.off(near), NOUGHT)
            self.assertEqual(values_by(points, near), values_by(points, fit.told()))
            for shares in some_table(seed, 3, wide) + unit_rows(wide) + [near]:
                # By what they have at free columns the ways are mixed, if at all.
                mix = mixed(fit.ways(), [shares[k] for k in fit.free()], wide)
                as_near = fit.off(shares) == NOUGHT
                self.assertIs(as_near, shares == added(fit.told(), mix))
                seen.add(as_near)
        self.check_each(check)
        self.assertEqual(seen, {True, False})

    def test_values_that_are_sure_are_the_same_by_all_shares_that_come_as_near(self):
        def check(seed, points, wide, fit):
            near = added(fit.told(), mixed(fit.ways(), some_row(seed, len(fit.ways())), wide))
            for row in some_table(seed, 3, wide) + unit_rows(wide) + [row for row, _, _ in points]:
                if fit.sure(row):
                    self.assertEqual(plain_dot(row, near), as_fraction(fit.value(row)))
                else:
                    farther = [added(fit.told(), way) for way in fit.ways()]
                    self.assertTrue(any(plain_dot(row, shares) != plain_dot(row, fit.told()) for shares in farther))
        self.check_each(check)

    def test_pulls_and_words(self):
        def check(seed, points, wide, fit):
            pulls = fit.pulls()
            self.assertEqual(plain_dot(pulls, [ONE] * len(points)), wide - len(fit.free()))
            for k, (row, want, _) in enumerate(points):
                self.assertFalse(less(pulls[k], NOUGHT) or less(ONE, pulls[k]))
                others = Fit(points[:k] + points[k + 1:], wide)
                self.assertIs(others.sure(row), pulls[k] != ONE)
                if others.sure(row):
                    left = minus(want, others.value(row))
                    self.assertEqual(fit.rests()[k], times(left, minus(ONE, pulls[k])))
        self.check_each(check)


class Order(unittest.TestCase):
    def check_same(self, plane, other):
        self.assertEqual(told_of(plane), told_of(other))
        self.assertEqual(by_points(plane), by_points(other))

    def test_the_same_points_laid_in_another_order(self):
        plane = laid(FOUR, 3)
        for order in ORDERS:
            self.check_same(laid([FOUR[k] for k in order], 3), plane)

    def test_of_each_kind_of_points(self):
        for points, wide in trial_fits():
            with self.subTest(points=points, wide=wide):
                plane = laid(points, wide)
                self.check_same(laid(points[::-1], wide), plane)
                self.check_same(laid(points[2:] + points[:2], wide), plane)

    def test_with_others_laid_and_taken_away_again_in_between(self):
        for points, wide in trial_fits():
            if wide == 12:
                continue
            with self.subTest(points=points, wide=wide):
                plane = Plane(wide)
                for k, (row, want, weight) in enumerate(points):
                    number = plane.lay(some_row(k, wide), ONE, (3 * k + 2, 3))
                    plane.lay(row, want, weight)
                    plane.widen(some_row(k, len(plane.points())))
                    plane.take(number)
                    plane.narrow()
                self.check_same(plane, laid(points, wide))

    def test_with_others_laid_and_led_back(self):
        plane = laid(FOUR[:2], 3)
        plane.lay(some_row(1, 3), ONE)
        plane.narrow()
        plane.take(0)
        plane.back(2)
        for row, want, weight in FOUR[2:]:
            plane.lay(row, want, weight)
        self.check_same(plane, laid(FOUR, 3))

    def test_columns_put_behind_are_as_if_laid_so(self):
        plane = laid([(row[:1], want, weight) for row, want, weight in FOUR], 1)
        for k in (1, 2):
            plane.widen([row[k] for row, _, _ in FOUR])
        self.check_same(plane, laid(FOUR, 3))

    def test_at_the_desk(self):
        told = []
        for order in ORDERS[::5]:
            desk = Desk()
            desk.say("plane p 3")
            for k in order:
                row, want, weight = FOUR[k]
                number = desk.say(f"lay p 5 {k},1,-{k + 1}")
                desk.say(f"lay p {shown(want)} {shown_row(row)} {shown(weight)}")
                desk.say(f"take p {number}")
            told.append([desk.say(f"{word} p") for word in ("told", "squares", "free", "ways", "mark")])
        self.assertEqual(told, [told[0]] * len(told))


class Floors(unittest.TestCase):
    def test_no_shares_that_are_kept_from_nought_up_come_nearer(self):
        for seed in range(8):
            points = points_by(some_table(seed + 20, 5, 3), seed)
            fit = Fit(points, 3)
            self.assertEqual(fit.free(), [])
            for marked in ([0], [1], [0, 2], [0, 1, 2]):
                shares, _, squares = floor(fit, marked)
                tried = some_table(seed, 6, 3) + unit_rows(3) + [fit.told(), [NOUGHT] * 3]
                tried += [added(shares, scaled(row, (1, 50))) for row in tried]
                for other in tried:
                    kept = kept_from_nought_up(other, marked)
                    if kept == shares:
                        self.assertEqual(plain_squares(points, kept), squares)
                    else:
                        self.assertTrue(less(squares, plain_squares(points, kept)))


if __name__ == "__main__":
    unittest.main()
