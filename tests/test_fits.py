"""Points [14] to [18]: fits, their shares, free columns, rests, ways, values, pulls, words, gains."""

import unittest

from nearplane.equations import reduced
from nearplane.errors import NoPoint, NotSure
from nearplane.fits import Fit
from nearplane.ratios import NOUGHT, ONE, is_ratio, less, minus, plus, times
from nearplane.rows import added, is_row, is_still, mixed, scaled
from nearplane.upright import nearest
from tests.things import (
    as_ratio, columns_of, kinds_of_anything, label, plain_dot, plain_squares, points_by, points_of, rows_of, some_row,
    some_table, trial_fits, unit_rows, values_by,
)

LINE = ["1,0 1", "1,1 0", "1,2 3"]
HEAVY = ["1 0 2", "1 3 1"]
# The second column is twice the first one, the third has noughts alone, the fifth is the first and the fourth.
HANGING = ["1,2,0,0,1 1 2", "2,4,0,1,3 0 1/3", "0,0,0,1,1 5 1", "1,2,0,-1,0 2 3/2"]


def free_columns(points, wide):
    """Columns that are mixes of those ahead, told by how many first things there are."""
    columns = columns_of(points, wide)
    ranks = [len(reduced(columns[:k], len(points))[2]) for k in range(wide + 1)]
    return [k for k in range(wide) if ranks[k] == ranks[k + 1]]


def weights_of(points):
    return [weight for _, _, weight in points]


def others_than(points, k):
    return points[:k] + points[k + 1:]


def with_column(points, column):
    return [(row + [thing], want, weight) for (row, want, weight), thing in zip(points, column, strict=True)]


def value_or_none(fit, row):
    try:
        return fit.value(row)
    except NotSure:
        return None


class OverTrials(unittest.TestCase):
    def check_each(self, check):
        for seed, (points, wide) in enumerate(trial_fits()):
            with self.subTest(seed=seed, points=points, wide=wide):
                check(seed, points, wide, Fit(points, wide))

    def check_upright(self, points, wide, row):
        for column in columns_of(points, wide):
            self.assertEqual(plain_dot(column, row, weights_of(points)), 0)


class Told(OverTrials):
    def test_a_plain_line(self):
        fit = Fit(points_of(*LINE), 2)
        self.assertEqual(fit.wide, 2)
        self.assertEqual([fit.told(), fit.rests()], rows_of("1/3,1", "2/3,-4/3,2/3"))
        self.assertEqual([fit.squares(), fit.free(), fit.ways()], [(8, 3), [], []])

    def test_by_weights_that_are_not_1(self):
        fit = Fit(points_of(*HEAVY), 1)
        self.assertEqual([fit.told(), fit.rests(), fit.squares()], [[ONE], rows_of("-1,2")[0], (6, 1)])

    def test_columns_that_are_mixes_and_noughts(self):
        fit = Fit(points_of(*HANGING), 5)
        self.assertEqual(fit.free(), [1, 2, 4])
        self.assertEqual(fit.ways(), rows_of("-2,1,0,0,0", "0,0,1,0,0", "-1,0,0,-1,1"))
        self.assertEqual([fit.told()[k] for k in fit.free()], [NOUGHT] * 3)

    def test_without_points_and_of_no_columns(self):
        fit = Fit([], 3)
        self.assertEqual([fit.wide, fit.told(), fit.free()], [3, [NOUGHT] * 3, [0, 1, 2]])
        self.assertEqual([fit.rests(), fit.squares(), fit.ways()], [[], NOUGHT, unit_rows(3)])
        fit = Fit(points_of(" 2 3", " -1/2 1"), 0)
        self.assertEqual([fit.wide, fit.told(), fit.free(), fit.ways()], [0, [], [], []])
        self.assertEqual([fit.rests(), fit.squares()], [rows_of("2,-1/2")[0], (49, 4)])
        fit = Fit([], 0)
        self.assertEqual([fit.told(), fit.free(), fit.rests(), fit.squares(), fit.ways()], [[], [], [], NOUGHT, []])

    def test_shares_and_rests_are_rows_that_make_the_wants(self):
        def check(seed, points, wide, fit):
            self.assertTrue(is_row(fit.told(), wide))
            self.assertTrue(is_row(fit.rests(), len(points)))
            self.assertEqual(added(values_by(points, fit.told()), fit.rests()), [want for _, want, _ in points])
        self.check_each(check)

    def test_rests_are_upright_on_each_column(self):
        def check(seed, points, wide, fit):
            self.check_upright(points, wide, fit.rests())
        self.check_each(check)

    def test_free_columns_are_mixes_of_those_ahead_and_have_the_share_nought(self):
        seen = set()

        def check(seed, points, wide, fit):
            self.assertEqual(fit.free(), free_columns(points, wide))
            self.assertIs(type(fit.free()), list)
            self.assertTrue(all(fit.told()[k] == NOUGHT for k in fit.free()))
            seen.add(min(len(fit.free()), 2))
        self.check_each(check)
        self.assertEqual(seen, {0, 1, 2})

    def test_it_is_the_nearest_mix_of_the_columns(self):
        def check(seed, points, wide, fit):
            wants = [want for _, want, _ in points]
            told = nearest(columns_of(points, wide), wants, weights_of(points))
            self.assertEqual((fit.told(), fit.rests()), told)
        self.check_each(check)

    def test_squares(self):
        def check(seed, points, wide, fit):
            self.assertTrue(is_ratio(fit.squares()))
            self.assertEqual(fit.squares(), plain_squares(points, fit.told()))
        self.check_each(check)

    def test_the_bounds_of_wide(self):
        for wide in (0, 1, 11, 12):
            fit = Fit(points_by(some_table(3, 2, wide), 1), wide)
            self.assertEqual([fit.wide, len(fit.told())], [wide, wide])

    def test_a_hundred_points(self):
        rows = some_table(4, 100, 2)
        points = points_by(rows, 2)
        self.check_upright(points, 2, Fit(points, 2).rests())


class Refused(unittest.TestCase):
    def check_refused(self, points, wide):
        with self.subTest(label(points), wide=label(wide)):
            with self.assertRaises(NoPoint):
                Fit(points, wide)

    def test_what_is_no_list_of_points(self):
        for points in kinds_of_anything() + ["", "1", "1,2", 0, 1, tuple(points_of("1 1")), points_of("1 1")[0]]:
            for wide in (0, 1, 2):
                self.check_refused(points, wide)

    def test_what_is_no_point(self):
        good = points_of("1 1")
        lengths = [([ONE], ONE), ([ONE], ONE, ONE, ONE), [[ONE], ONE, ONE], (ONE, ONE, ONE), "abc"]
        for thing in kinds_of_anything() + lengths + [[ONE], ONE, 0, "1", []]:
            self.check_refused([thing], 1)
            self.check_refused(good + [thing], 1)
            self.check_refused([thing] + good, 1)
            self.check_refused([thing], 0)

    def test_rows_of_another_length_and_what_is_no_row(self):
        for wide in (0, 1, 2, 12):
            for long in {wide - 1, wide + 1, 13} - {-1}:
                self.check_refused([([ONE] * long, ONE, ONE)], wide)
                self.check_refused([([ONE] * wide, ONE, ONE), ([ONE] * long, ONE, ONE)], wide)
        for row in kinds_of_anything() + ["", "1", 0, (ONE,), (ONE, ONE), [[ONE]]]:
            for wide in (0, 1, 2):
                self.check_refused([(row, ONE, ONE)], wide)

    def test_what_is_no_ratio_in_each_place(self):
        for thing in kinds_of_anything() + ["1", "", 0, 1, [1, 1], [], [ONE]]:
            self.check_refused([([thing], ONE, ONE)], 1)
            self.check_refused([([ONE, thing], ONE, ONE)], 2)
            self.check_refused([([ONE], thing, ONE)], 1)
            self.check_refused([([ONE], ONE, thing)], 1)

    def test_weights_that_are_not_above_nought(self):
        for weight in rows_of("0,-1,-1/2,-1000000")[0]:
            self.check_refused([([ONE], ONE, weight)], 1)
            self.check_refused([([ONE], ONE, ONE), ([ONE], ONE, weight)], 1)
        self.assertEqual(Fit([([ONE], ONE, (1, 10 ** 200))], 1).told(), [ONE])

    def test_what_is_no_wide(self):
        for wide in kinds_of_anything() + [-1, -12, 13, 14, 10 ** 200, "", "0", "1", [], [1], ONE]:
            self.check_refused([], wide)
            self.check_refused(points_of("1 1"), wide)
            self.check_refused(None, wide)
        self.check_refused([([ONE] * 13, ONE, ONE)], 13)
        self.check_refused([([ONE], ONE, ONE)], True)
        self.check_refused([([], ONE, ONE)], False)


class Ways(OverTrials):
    def test_one_for_each_free_column_by_which_the_columns_mix_to_noughts(self):
        def check(seed, points, wide, fit):
            self.assertEqual(len(fit.ways()), len(fit.free()))
            for k, way in zip(fit.free(), fit.ways()):
                self.assertTrue(is_row(way, wide))
                self.assertEqual([way[j] for j in fit.free()], [ONE if j == k else NOUGHT for j in fit.free()])
                self.assertTrue(is_still(mixed(columns_of(points, wide), way, len(points))))
        self.check_each(check)


class Values(OverTrials):
    def test_plain_ones(self):
        fit = Fit(points_of(*LINE), 2)
        rows = rows_of("1,0", "1,3", "0,0", "1/3,-1/9")
        self.assertEqual([fit.value(row) for row in rows], rows_of("1/3,10/3,0,0")[0])

    def test_sure_just_where_each_way_has_nought(self):
        seen = set()

        def check(seed, points, wide, fit):
            tried = some_table(seed, 4, wide) + unit_rows(wide) + [[NOUGHT] * wide] + [row for row, _, _ in points]
            for row in tried:
                sure = all(plain_dot(row, way) == 0 for way in fit.ways())
                self.assertIs(fit.sure(row), sure)
                seen.add(sure)
                if sure:
                    self.assertEqual(fit.value(row), as_ratio(plain_dot(row, fit.told())))
                else:
                    self.assertRaises(NotSure, fit.value, row)
        self.check_each(check)
        self.assertEqual(seen, {True, False})

    def test_at_the_points_and_their_mixes_values_are_sure(self):
        def check(seed, points, wide, fit):
            values = values_by(points, fit.told())
            self.assertEqual([fit.value(row) for row, _, _ in points], values)
            shares = some_row(seed, len(points))
            mix = mixed([row for row, _, _ in points], shares, wide)
            self.assertEqual(fit.value(mix), as_ratio(plain_dot(values, shares)))
        self.check_each(check)

    def test_rows_that_are_not_sure(self):
        fit = Fit(points_of(*HANGING), 5)
        for row in rows_of("1,0,0,0,0", "0,0,1,0,0", "1,2,0,0,0", "1,2,1,0,1", "0,0,0,0,7"):
            self.assertIs(fit.sure(row), False)
            self.assertRaises(NotSure, fit.value, row)
        for row in rows_of("1,2,0,0,1", "-1/2,-1,0,3,5/2", "0,0,0,0,0"):
            self.assertIs(fit.sure(row), True)
            self.assertTrue(is_ratio(fit.value(row)))

    def test_where_ways_are_upright_together_but_not_alone(self):
        fit = Fit(points_of("1,1,1 3"), 3)
        self.assertEqual(fit.ways(), rows_of("-1,1,0", "-1,0,1"))
        self.assertIs(fit.sure(rows_of("0,1,-1")[0]), False)
        self.assertIs(fit.sure(rows_of("2,2,2")[0]), True)
        self.assertEqual(fit.value(rows_of("2,2,2")[0]), (6, 1))

    def test_without_points(self):
        fit = Fit([], 2)
        self.assertIs(fit.sure(rows_of("0,0")[0]), True)
        self.assertEqual(fit.value(rows_of("0,0")[0]), NOUGHT)
        self.assertIs(fit.sure(rows_of("0,1/2")[0]), False)
        self.assertRaises(NotSure, fit.value, rows_of("0,1/2")[0])
        self.assertEqual([Fit([], 0).sure([]), Fit([], 0).value([])], [True, NOUGHT])
        self.assertEqual([Fit(points_of(" 4"), 0).sure([]), Fit(points_of(" 4"), 0).value([])], [True, NOUGHT])

    def test_without_free_columns_each_row_is_sure(self):
        fit = Fit(points_by(some_table(2, 6, 3), 1), 3)
        self.assertEqual(fit.free(), [])
        for row in some_table(5, 6, 3):
            self.assertIs(fit.sure(row), True)
            self.assertEqual(fit.value(row), as_ratio(plain_dot(row, fit.told())))


class Pulls(OverTrials):
    def test_plain_ones(self):
        self.assertEqual(Fit(points_of(*LINE), 2).pulls(), rows_of("5/6,1/3,5/6")[0])
        self.assertEqual(Fit(points_of(*HEAVY), 1).pulls(), rows_of("2/3,1/3")[0])
        self.assertEqual(Fit(points_of("0,0 4", "1,0 2", "0,0 -1"), 2).pulls(), rows_of("0,1,0")[0])
        self.assertEqual([Fit([], 3).pulls(), Fit([], 0).pulls()], [[], []])
        self.assertEqual(Fit(points_of(" 1", " 2"), 0).pulls(), [NOUGHT, NOUGHT])

    def test_each_is_the_value_by_a_want_of_1_at_the_point_alone(self):
        def check(seed, points, wide, fit):
            told = []
            for k, point in enumerate(points):
                alone = [(row, ONE if at == k else NOUGHT, weight) for at, (row, _, weight) in enumerate(points)]
                told.append(Fit(alone, wide).value(point[0]))
            self.assertEqual(fit.pulls(), told)
        self.check_each(check)

    def test_they_come_to_how_many_columns_are_not_free_each_from_0_to_1(self):
        def check(seed, points, wide, fit):
            self.assertTrue(is_row(fit.pulls(), len(points)))
            self.assertEqual(plain_dot(fit.pulls(), [ONE] * len(points)), wide - len(fit.free()))
            for pull in fit.pulls():
                self.assertFalse(less(pull, NOUGHT) or less(ONE, pull))
        self.check_each(check)

    def test_points_that_are_alike_pull_alike(self):
        fit = Fit(points_of("1,2 3 2", "1,2 3 2", "0,1 1 1", "1,2 -5 2"), 2)
        self.assertEqual(fit.pulls(), rows_of("1/3,1/3,1,1/3")[0])
        self.assertEqual([fit.word(k) for k in range(4)], [(-1, 1), (-1, 1), None, (3, 1)])


class Words(OverTrials):
    def test_plain_ones(self):
        fit = Fit(points_of(*LINE), 2)
        self.assertEqual([fit.word(k) for k in range(3)], rows_of("-3,2,-1")[0])
        fit = Fit(points_of(*HEAVY), 1)
        self.assertEqual([fit.word(k) for k in range(2)], rows_of("3,0")[0])

    def test_a_point_that_stands_alone_has_no_word(self):
        self.assertIsNone(Fit(points_of("1 5"), 1).word(0))
        fit = Fit(points_of("1,0 5", "0,1 2", "0,2 8"), 2)
        self.assertEqual([fit.word(k) for k in range(3)], [None, (4, 1), (4, 1)])

    def test_points_that_pull_nothing(self):
        self.assertEqual(Fit(points_of("0,0 5"), 2).word(0), NOUGHT)
        self.assertEqual(Fit(points_of(" 5", " 1"), 0).word(1), NOUGHT)

    def test_each_is_the_value_of_the_fit_of_the_others(self):
        seen = set()

        def check(seed, points, wide, fit):
            for k, point in enumerate(points):
                word = value_or_none(Fit(others_than(points, k), wide), point[0])
                self.assertEqual(fit.word(k), word)
                self.assertIs(fit.pulls()[k] == ONE, word is None)
                seen.add(word is None)
        self.check_each(check)
        self.assertEqual(seen, {True, False})

    def test_the_rest_is_what_the_others_leave_times_1_less_the_pull(self):
        def check(seed, points, wide, fit):
            for k, (_, want, _) in enumerate(points):
                if fit.word(k) is None:
                    self.assertEqual(fit.rests()[k], NOUGHT)
                else:
                    left = minus(want, fit.word(k))
                    self.assertEqual(fit.rests()[k], times(left, minus(ONE, fit.pulls()[k])))
        self.check_each(check)


class Gain(OverTrials):
    def test_plain_ones(self):
        fit = Fit(points_of("1 1", "1 0", "1 3"), 1)
        self.assertEqual(fit.squares(), (14, 3))
        columns = rows_of("0,1,2", "1,0,3", "2,2,2", "0,0,0")
        self.assertEqual([fit.gain(column) for column in columns], rows_of("2,14/3,0,0")[0])
        self.assertEqual(Fit(points_of(" 0 2", " 3 1"), 0).gain(rows_of("1,1")[0]), (3, 1))
        self.assertEqual([Fit([], 2).gain([]), Fit([], 0).gain([])], [NOUGHT, NOUGHT])

    def test_it_is_the_squares_less_those_with_the_column_as_the_last(self):
        def check(seed, points, wide, fit):
            if wide == 12:
                return
            for column in [some_row(seed, len(points)), [NOUGHT] * len(points), [ONE] * len(points)]:
                wider = Fit(with_column(points, column), wide + 1)
                self.assertEqual(fit.gain(column), minus(fit.squares(), wider.squares()))
                self.assertFalse(less(fit.gain(column), NOUGHT))
        self.check_each(check)

    def test_a_mix_of_the_columns_gains_nothing_and_the_wants_all(self):
        def check(seed, points, wide, fit):
            mix = mixed(columns_of(points, wide), some_row(seed, wide), len(points))
            self.assertEqual(fit.gain(mix), NOUGHT)
            self.assertEqual(fit.gain([want for _, want, _ in points]), fit.squares())
        self.check_each(check)


class Off(OverTrials):
    def test_plain_ones(self):
        fit = Fit(points_of(*HEAVY), 1)
        self.assertEqual([fit.off(row) for row in rows_of("1", "0", "3", "1/2")], rows_of("0,3,12,3/4")[0])
        self.assertEqual([Fit([], 2).off(rows_of("1,5")[0]), Fit([], 0).off([])], [NOUGHT, NOUGHT])

    def test_of_the_told_shares_and_of_their_ways_it_is_nought(self):
        def check(seed, points, wide, fit):
            self.assertEqual(fit.off(fit.told()), NOUGHT)
            for way in fit.ways():
                self.assertEqual(fit.off(added(fit.told(), scaled(way, (-5, 3)))), NOUGHT)
        self.check_each(check)

    def test_of_others_it_is_what_the_squares_are_greater_by(self):
        def check(seed, points, wide, fit):
            for shares in some_table(seed, 3, wide) + unit_rows(wide):
                self.assertEqual(plus(fit.squares(), fit.off(shares)), plain_squares(points, shares))
        self.check_each(check)


if __name__ == "__main__":
    unittest.main()
