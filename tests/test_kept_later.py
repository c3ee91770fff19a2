"""Point [2] over fits, planes, floors and the desk: nothing done to lists changes what is told later."""

import copy
import unittest

from nearplane.desk import Desk
from nearplane.errors import PlaneError
from nearplane.fits import Fit
from nearplane.floors import floor, gap
from nearplane.planes import Plane
from nearplane.ratios import ONE
from tests.test_kept import are_apart, lists_in, spoil
from tests.things import points_of, rows_of, trial_fits, unit_rows

SURE = ["1,0 1 2", "1,1 0 1", "1,2 3 1/3"]
HANGING = ["1,2,0 1 2", "1,2,0 5 1", "0,0,1 3 1/3"]

ASKED_OF_FITS = [
    lambda fit: fit.wide, lambda fit: fit.told(), lambda fit: fit.free(), lambda fit: fit.rests(),
    lambda fit: fit.squares(), lambda fit: fit.ways(), lambda fit: fit.pulls(), lambda fit: fit.word(0),
]
ASKED_OF_PLANES = [
    lambda plane: plane.points(), lambda plane: plane.width(), lambda plane: plane.sums(), lambda plane: plane.told(),
    lambda plane: plane.free(), lambda plane: plane.ways(), lambda plane: plane.squares(), lambda plane: plane.mark(),
    lambda plane: plane.fit().told(), lambda plane: plane.fit().rests(), lambda plane: plane.fit().ways(),
]


def asked(questions, one):
    return [question(one) for question in questions]


def fits():
    return [(points, wide) for points, wide in trial_fits() if points and wide < 6]


def grown_plane():
    """A plane behind deeds of each kind, with three points and two columns."""
    plane = Plane(1)
    for want in (3, 4, 5, 6):
        plane.lay([ONE], (want, 1))
    plane.take(1)
    plane.widen(rows_of("1,0,2")[0])
    plane.widen(rows_of("5,5,5")[0])
    plane.narrow()
    return plane


class Later(unittest.TestCase):
    def check_own(self, questions, one):
        """What is told is spoilt; then the same is told again, in new lists."""
        first = asked(questions, one)
        kept = copy.deepcopy(first)
        again = asked(questions, one)
        self.assertTrue(are_apart(lists_in(first) + lists_in(again)))
        spoil(first)
        self.assertEqual(again, kept)
        self.assertEqual(asked(questions, one), kept)

    def check_unchanged(self, call, *given):
        handed = copy.deepcopy(list(given))
        told = call(*handed)
        self.assertEqual(handed, list(given))
        return told


class OfFits(Later):
    def test_told_lists_are_the_askers_own(self):
        for points, wide in fits() + [(points_of(*SURE), 2), (points_of(*HANGING), 3)]:
            with self.subTest(points=points, wide=wide):
                self.check_own(ASKED_OF_FITS, Fit(points, wide))
        for wide in (0, 3):
            self.check_own(ASKED_OF_FITS[:-1], Fit([], wide))

    def test_what_is_handed_in_is_not_changed(self):
        for points, wide in fits():
            with self.subTest(points=points, wide=wide):
                fit = self.check_unchanged(Fit, points, wide)
                row = [ONE] * wide
                self.assertIs(self.check_unchanged(fit.sure, row), fit.sure(row))
                self.check_unchanged(fit.value, list(points[0][0]))
                self.check_unchanged(fit.gain, [ONE] * len(points))
                self.check_unchanged(fit.off, row)
                self.check_unchanged(fit.off, fit.told())

    def test_what_was_handed_in_changed_later_changes_nothing(self):
        for points, wide in fits():
            with self.subTest(points=points, wide=wide):
                handed = copy.deepcopy(points)
                fit = Fit(handed, wide)
                row, column, shares = [ONE] * wide, [ONE] * len(points), [ONE] * wide
                told = [fit.sure(row), fit.gain(column), fit.off(shares)]
                spoil([handed, row, column, shares])
                self.assertEqual(asked(ASKED_OF_FITS, fit), asked(ASKED_OF_FITS, Fit(points, wide)))
                row, column = [ONE] * wide, [ONE] * len(points)
                self.assertEqual([fit.sure(row), fit.gain(column), fit.off(row)], told)

    def test_asking_changes_nothing(self):
        fit = Fit(points_of(*HANGING), 3)
        before = asked(ASKED_OF_FITS, fit)
        for row in unit_rows(3) + rows_of("1,2,0"):
            fit.sure(row)
            fit.gain(row)
            fit.off(row)
        self.assertRaises(PlaneError, fit.value, rows_of("1,0,0")[0])
        self.assertEqual(asked(ASKED_OF_FITS, fit), before)

    def test_one_row_handed_in_for_all_points(self):
        row = [ONE, ONE]
        fit = Fit([(row, ONE, ONE), (row, (3, 1), ONE)], 2)
        row[0] = (9, 1)
        self.assertEqual([fit.told(), fit.rests()], rows_of("2,0", "-1,1"))

    def test_refused_ones(self):
        good = points_of("1 1")
        for points, wide in ((good + [([ONE], ONE)], 1), (good, 2), (tuple(good), 1), ({0: good}, 1), (good, [1])):
            handed = copy.deepcopy([points, wide])
            self.assertRaises(PlaneError, Fit, *handed)
            self.assertEqual(handed, [points, wide])


class OfPlanes(Later):
    def test_told_lists_are_the_askers_own(self):
        for plane in (Plane(0), Plane(3), grown_plane()):
            self.check_own(ASKED_OF_PLANES, plane)

    def test_told_lists_spoilt_change_nothing_that_is_led_back_to(self):
        plane = grown_plane()
        kept = []
        for mark in range(plane.mark() + 1):
            other = grown_plane()
            other.back(mark)
            kept.append(asked(ASKED_OF_PLANES, other))
        for mark in reversed(range(plane.mark() + 1)):
            spoil(asked(ASKED_OF_PLANES, plane))
            plane.back(mark)
            self.assertEqual(asked(ASKED_OF_PLANES, plane), kept[mark])

    def test_what_is_handed_in_is_not_changed_and_may_change_later(self):
        plane = Plane(2)
        row = rows_of("1,2")[0]
        for want in (1, 5):
            plane.lay(row, (want, 1))
        column = rows_of("3,1/2")[0]
        plane.widen(column)
        plane.narrow()
        plane.widen(column)
        self.assertEqual([row, column], rows_of("1,2", "3,1/2"))
        kept = asked(ASKED_OF_PLANES, plane)
        spoil([row, column])
        self.assertEqual(asked(ASKED_OF_PLANES, plane), kept)
        plane.narrow()
        self.assertEqual([point[1] for point in plane.points()], rows_of("1,2", "1,2"))
        plane.back(1)
        self.assertEqual([point[1] for point in plane.points()], rows_of("1,2"))

    def test_refused_ones(self):
        plane = grown_plane()
        for deed, given in ((plane.lay, [[ONE], ONE]), (plane.lay, [[ONE, ONE], [1, 1]]), (plane.take, [[0]]),
                            (plane.widen, [[ONE]]), (plane.widen, [[[ONE]] * 3]), (plane.back, [[1]])):
            handed = copy.deepcopy(given)
            self.assertRaises(PlaneError, deed, *handed)
            self.assertEqual(handed, given)

    def test_told_rows_laid_again(self):
        plane = grown_plane()
        number, row, want, weight = plane.points()[0]
        plane.lay(row, want, weight)
        spoil(row)
        self.assertEqual([point[1] for point in plane.points()], rows_of("1,1", "1,0", "1,2", "1,1"))
        self.assertEqual(number, 0)


class OfFloors(Later):
    def test_told_lists_are_the_askers_own(self):
        fit = Fit(points_of("1,0 2 3", "0,1 -1 1/2", "1,1 1 2"), 2)
        for marked in ([], [0], [1], [0, 1]):
            self.check_own([lambda one: floor(one, marked), lambda one: gap(one, marked)], fit)
            self.check_own(ASKED_OF_FITS, fit)
        self.check_own([lambda one: floor(one, [])], Fit([], 0))

    def test_what_is_handed_in_is_not_changed(self):
        fit = Fit(points_of("1,0 2 3", "0,1 -1 1/2", "1,1 1 2"), 2)
        before = asked(ASKED_OF_FITS, fit)
        for marked in ([], [0], [1], [0, 1], [1, 0], [2], (0,), {0: 1}):
            for call in (floor, gap):
                handed = copy.deepcopy(marked)
                try:
                    call(fit, handed)
                except PlaneError:
                    pass
                self.assertEqual(handed, marked)
                self.assertEqual(asked(ASKED_OF_FITS, fit), before)

    def test_marks_changed_later_change_nothing(self):
        fit = Fit(points_of("1,0 2 3", "0,1 -1 1/2", "1,1 1 2"), 2)
        marked = [1]
        told = floor(fit, marked)
        kept = copy.deepcopy(told)
        marked[0] = 0
        self.assertEqual(told, kept)
        self.assertEqual(floor(fit, [1]), kept)


class OfDesks(Later):
    def test_asking_changes_nothing(self):
        desk = Desk()
        for line in ("plane p 2", "lay p 1 1,0 2", "lay p 0 1,1", "lay p 3 1,2 1/3"):
            desk.say(line)
        lines = ["names"] + [f"{word} p" for word in ("mark", "told", "rests", "pulls", "squares", "free", "ways")]
        lines += ["value p 1,7", "word p 1", "floor p 0,1", "floor p 1"]
        before = [desk.say(line) for line in lines]
        for line in lines[::-1]:
            desk.say(line)
        self.assertEqual([desk.say(line) for line in lines], before)


if __name__ == "__main__":
    unittest.main()
