"""Points [19] to [22]: planes, what is laid, taken away, widened, narrowed, told and led back."""

import unittest

from nearplane.errors import NoColumn, NoMark, NoPoint
from nearplane.fits import Fit
from nearplane.planes import Plane
from nearplane.ratios import NOUGHT, ONE, is_whole
from nearplane.upright import dots, square
from tests.things import (
    Touchy, as_ratio, columns_of, kinds_of_anything, label, laid, plain_dot, points_of, rows_of, trial_fits,
)

HALF = (1, 2)
NO_RATIOS = kinds_of_anything() + ["", "1", 0, 1, [1, 1], [], [ONE]]


def told_of(plane):
    """All that a plane tells but its mark."""
    return [plane.points(), plane.width(), plane.sums(), plane.told(), plane.free(), plane.ways(), plane.squares()]


def numbers_of(plane):
    return [point[0] for point in plane.points()]


def next_number(plane):
    """The number that the next point would have; the plane is as it was behind it."""
    mark = plane.mark()
    number = plane.lay([NOUGHT] * plane.width(), NOUGHT)
    plane.back(mark)
    return number


def busy_plane():
    """A plane with a deed of each kind behind it, points 0, 2 and 4, of six laid ones, and two columns."""
    plane = laid(points_of("1,2 3 2", "0,1 1 1/2", "1,0 -1", "2,2 5 3", "1,-1 0", "7,7 7"), 2)
    plane.take(1)
    plane.widen(rows_of("1,0,1/2,-1,2")[0])
    plane.take(5)
    plane.take(3)
    plane.narrow()
    return plane


class OfPlanes(unittest.TestCase):
    def check_refused(self, error, plane, deed, *given):
        """Refused, and nothing is changed by it."""
        before = [told_of(plane), plane.mark(), next_number(plane)]
        with self.subTest(deed, given=[label(thing) for thing in given]):
            with self.assertRaises(error):
                getattr(plane, deed)(*given)
            self.assertEqual([told_of(plane), plane.mark(), next_number(plane)], before)


class Made(OfPlanes):
    def test_without_points(self):
        for wide in range(13):
            plane = Plane(wide)
            self.assertEqual([plane.width(), plane.points(), plane.mark()], [wide, [], 0])
            self.assertEqual(plane.free(), list(range(wide)))

    def test_what_is_no_wide_is_refused(self):
        for wide in kinds_of_anything() + [-1, -12, 13, 14, 10 ** 200, "", "0", "1", [], [1], ONE]:
            with self.subTest(label(wide)):
                self.assertRaises(NoColumn, Plane, wide)


class Lay(OfPlanes):
    def test_numbers_go_on_behind_what_was_taken_away(self):
        plane = Plane(1)
        self.assertEqual([plane.lay([ONE], ONE), plane.lay([ONE], ONE)], [0, 1])
        plane.take(1)
        self.assertEqual(plane.lay([HALF], ONE), 2)
        plane.take(0)
        plane.take(2)
        self.assertEqual([plane.lay([ONE], ONE), plane.lay([ONE], ONE)], [3, 4])
        self.assertEqual(numbers_of(plane), [3, 4])
        self.assertTrue(is_whole(plane.lay([ONE], ONE)))

    def test_points_by_rising_numbers(self):
        plane = busy_plane()
        self.assertEqual(plane.points(), [
            (0, rows_of("1,2")[0], (3, 1), (2, 1)), (2, rows_of("1,0")[0], (-1, 1), ONE),
            (4, rows_of("1,-1")[0], NOUGHT, ONE),
        ])
        self.assertIs(type(plane.points()), list)
        self.assertEqual({type(point) for point in plane.points()}, {tuple})
        self.assertEqual(plane.lay(rows_of("0,0")[0], HALF, HALF), 6)
        self.assertEqual(plane.points()[3], (6, rows_of("0,0")[0], HALF, HALF))

    def test_a_weight_left_out_and_none_is_1(self):
        plane = Plane(1)
        plane.lay([ONE], HALF)
        plane.lay([ONE], HALF, None)
        plane.lay([ONE], HALF, ONE)
        plane.lay([ONE], HALF, weight=HALF)
        self.assertEqual([weight for _, _, _, weight in plane.points()], [ONE, ONE, ONE, HALF])

    def test_rows_of_no_things(self):
        plane = Plane(0)
        self.assertEqual([plane.lay([], ONE), plane.lay([], HALF, HALF)], [0, 1])
        self.assertEqual(plane.points(), [(0, [], ONE, ONE), (1, [], HALF, HALF)])

    def test_what_is_no_row_of_the_width_is_refused(self):
        plane = busy_plane()
        rows = kinds_of_anything() + ["", "1,2", 0, [], [ONE], [ONE] * 3, [ONE] * 13, (ONE, ONE), {0: ONE, 1: ONE}]
        for row in rows:
            self.check_refused(NoPoint, plane, "lay", row, ONE)
            self.check_refused(NoPoint, plane, "lay", row, ONE, ONE)
        for thing in NO_RATIOS:
            self.check_refused(NoPoint, plane, "lay", [ONE, thing], ONE)
            self.check_refused(NoPoint, plane, "lay", [thing, ONE], ONE)
        self.check_refused(NoPoint, Plane(0), "lay", [ONE], ONE)
        self.check_refused(NoPoint, Plane(0), "lay", (), ONE)
        self.check_refused(NoPoint, Plane(0), "lay", None, ONE)

    def test_the_width_is_the_present_one(self):
        plane = Plane(1)
        plane.widen([])
        self.check_refused(NoPoint, plane, "lay", [ONE], ONE)
        self.assertEqual(plane.lay([ONE, ONE], ONE), 0)
        plane.narrow()
        self.check_refused(NoPoint, plane, "lay", [ONE, ONE], ONE)
        self.assertEqual(plane.lay([ONE], ONE), 1)

    def test_what_is_no_want_and_no_weight_is_refused(self):
        plane = busy_plane()
        for thing in NO_RATIOS:
            self.check_refused(NoPoint, plane, "lay", [ONE, ONE], thing)
            self.check_refused(NoPoint, plane, "lay", [ONE, ONE], thing, ONE)
            if thing is not None:
                self.check_refused(NoPoint, plane, "lay", [ONE, ONE], ONE, thing)
        for weight in rows_of("0,-1,-1/2")[0]:
            self.check_refused(NoPoint, plane, "lay", [ONE, ONE], ONE, weight)
        self.check_refused(NoPoint, plane, "lay", Touchy(), Touchy(), Touchy())


class Take(OfPlanes):
    def test_points_are_taken_away_by_their_numbers(self):
        plane = laid(points_of("1 1", "2 2", "3 3", "4 4"), 1)
        self.assertIsNone(plane.take(2))
        self.assertEqual(numbers_of(plane), [0, 1, 3])
        plane.take(0)
        plane.take(3)
        self.assertEqual(plane.points(), [(1, [(2, 1)], (2, 1), ONE)])
        plane.take(1)
        self.assertEqual([plane.points(), plane.mark(), next_number(plane)], [[], 8, 4])

    def test_what_is_no_number_of_a_point_there_is_refused(self):
        plane = busy_plane()
        for number in kinds_of_anything() + [1, 3, 5, 6, 7, -1, -2, -6, 10 ** 200, "", "0", "2", [], [0], ONE, NOUGHT]:
            self.check_refused(NoPoint, plane, "take", number)
        for number in (0, -1, False, None):
            self.check_refused(NoPoint, Plane(2), "take", number)

    def test_none_is_taken_away_twice(self):
        plane = laid(points_of("1 1", "2 2"), 1)
        plane.take(0)
        self.check_refused(NoPoint, plane, "take", 0)


class Columns(OfPlanes):
    def test_a_column_is_put_behind_the_rows(self):
        plane = busy_plane()
        self.assertIsNone(plane.widen(rows_of("5,-6,1/7")[0]))
        self.assertEqual(plane.width(), 3)
        self.assertEqual([row for _, row, _, _ in plane.points()], rows_of("1,2,5", "1,0,-6", "1,-1,1/7"))
        self.assertIsNone(plane.narrow())
        self.assertIsNone(plane.narrow())
        self.assertEqual([row for _, row, _, _ in plane.points()], rows_of("1", "1", "1"))
        plane.narrow()
        self.assertEqual([row for _, row, _, _ in plane.points()], [[], [], []])
        self.assertEqual([plane.width(), numbers_of(plane)], [0, [0, 2, 4]])
        self.check_refused(NoColumn, plane, "narrow")
        plane.widen(rows_of("1,2,3")[0])
        self.assertEqual([row for _, row, _, _ in plane.points()], rows_of("1", "2", "3"))

    def test_without_points(self):
        plane = Plane(0)
        self.check_refused(NoColumn, plane, "narrow")
        plane.widen([])
        plane.widen([])
        self.assertEqual([plane.width(), plane.free(), plane.mark()], [2, [0, 1], 2])
        plane.narrow()
        self.assertEqual([plane.width(), plane.mark()], [1, 3])
        self.check_refused(NoColumn, plane, "widen", [ONE])

    def test_a_thirteenth_column_is_refused(self):
        plane = laid([([ONE] * 11, ONE, ONE)], 11)
        plane.widen([HALF])
        self.assertEqual(plane.points()[0][1], [ONE] * 11 + [HALF])
        self.check_refused(NoColumn, plane, "widen", [ONE])
        self.check_refused(NoColumn, Plane(12), "widen", [])
        plane.narrow()
        plane.widen([NOUGHT])
        self.assertEqual(plane.points()[0][1], [ONE] * 11 + [NOUGHT])

    def test_what_is_no_column_is_refused(self):
        plane = busy_plane()
        three = (ONE, ONE, ONE)
        for column in kinds_of_anything() + ["", "1,2,3", 3, [], [ONE], [ONE] * 2, [ONE] * 4, [ONE] * 6, three]:
            self.check_refused(NoColumn, plane, "widen", column)
        for thing in NO_RATIOS:
            self.check_refused(NoColumn, plane, "widen", [ONE, thing, ONE])
            self.check_refused(NoColumn, plane, "widen", [ONE, ONE, thing])
            self.check_refused(NoColumn, Plane(2), "widen", [thing])
        for column in kinds_of_anything() + ["", 0]:
            self.check_refused(NoColumn, Plane(2), "widen", column)
            self.check_refused(NoColumn, Plane(12), "widen", column)


class Sums(OfPlanes):
    def test_plain_ones(self):
        plane = laid(points_of("1,0 1 2", "1,1 0 1/3", "1,2 3"), 2)
        self.assertEqual(plane.sums(), (rows_of("10/3,7/3", "7/3,13/3"), rows_of("5,6")[0], (11, 1)))
        self.assertEqual(Plane(2).sums(), (rows_of("0,0", "0,0"), rows_of("0,0")[0], NOUGHT))
        self.assertEqual(Plane(0).sums(), ([], [], NOUGHT))
        self.assertEqual(laid(points_of(" 2 3"), 0).sums(), ([], [], (12, 1)))

    def test_dots_of_the_columns_and_the_wants_by_the_weights(self):
        for points, wide in trial_fits():
            with self.subTest(points=points, wide=wide):
                told = laid(points, wide).sums()
                wants = [want for _, want, _ in points]
                weights = [weight for _, _, weight in points]
                columns = columns_of(points, wide)
                self.assertEqual([type(told), len(told)], [tuple, 3])
                self.assertEqual(told[0], dots(columns, weights))
                self.assertEqual(told[1], [as_ratio(plain_dot(column, wants, weights)) for column in columns])
                self.assertEqual(told[2], square(wants, weights))


class Told(OfPlanes):
    def check_as_fit(self, plane, fit):
        self.assertEqual(plane.told(), fit.told())
        self.assertEqual(plane.free(), fit.free())
        self.assertEqual(plane.ways(), fit.ways())
        self.assertEqual(plane.squares(), fit.squares())
        own = plane.fit()
        self.assertIs(type(own), Fit)
        self.assertEqual([own.wide, own.told(), own.free()], [plane.width(), fit.told(), fit.free()])
        self.assertEqual([own.rests(), own.pulls(), own.ways()], [fit.rests(), fit.pulls(), fit.ways()])

    def test_they_are_those_of_the_fit_of_the_points(self):
        for points, wide in trial_fits():
            with self.subTest(points=points, wide=wide):
                self.check_as_fit(laid(points, wide), Fit(points, wide))

    def test_by_rising_numbers_of_the_points_that_are_there(self):
        plane = busy_plane()
        self.check_as_fit(plane, Fit(points_of("1,2 3 2", "1,0 -1", "1,-1 0"), 2))
        plane.widen(rows_of("3,1,0")[0])
        self.check_as_fit(plane, Fit(points_of("1,2,3 3 2", "1,0,1 -1", "1,-1,0 0"), 3))
        plane.narrow()
        plane.narrow()
        plane.lay([HALF], ONE, (7, 1))
        self.check_as_fit(plane, Fit(points_of("1 3 2", "1 -1", "1 0", "1/2 1 7"), 1))

    def test_they_hang_on_the_sums_alone(self):
        one = laid(points_of("1 1", "1 1", "2 0"), 1)
        other = laid(points_of("1 1 2", "1 0 2", "-1 0 2"), 1)
        self.assertEqual(one.sums(), other.sums())
        self.assertEqual(told_of(one)[3:], told_of(other)[3:])

    def test_a_fit_stays_when_the_plane_goes_on(self):
        plane = laid(points_of("1 1", "1 3"), 1)
        fit = plane.fit()
        plane.lay([ONE], (8, 1))
        plane.widen(rows_of("1,2,3")[0])
        self.assertEqual([fit.wide, fit.told(), fit.rests()], [1, [(2, 1)], rows_of("-1,1")[0]])


class Marks(OfPlanes):
    def deeds(self):
        """Deeds of each kind, one behind another."""
        return [
            ("lay", rows_of("1,2")[0], ONE), ("lay", rows_of("0,1")[0], HALF, (3, 1)), ("widen", rows_of("1,-1")[0]),
            ("lay", rows_of("1,1,1")[0], (4, 1)), ("take", 0), ("narrow",), ("lay", rows_of("2,5")[0], ONE),
            ("take", 3), ("narrow",), ("narrow",), ("lay", [], HALF), ("widen", rows_of("1,2,3")[0]), ("take", 1),
            ("take", 2), ("take", 4), ("widen", []), ("lay", rows_of("3,3")[0], NOUGHT),
        ]

    def seen(self, plane):
        return [told_of(plane), plane.mark()]

    def done(self, plane, deeds):
        """What is seen of the plane ahead of the first deed and behind each."""
        told = [self.seen(plane)]
        for deed in deeds:
            getattr(plane, deed[0])(*deed[1:])
            told.append(self.seen(plane))
        return told

    def test_the_mark_is_how_many_deeds_were_done(self):
        plane = Plane(2)
        told = self.done(plane, self.deeds())
        self.assertEqual([mark for _, mark in told], list(range(len(self.deeds()) + 1)))

    def test_led_back_to_each_mark_all_is_as_it_was(self):
        many = len(self.deeds())
        for mark in range(many + 1):
            with self.subTest(mark=mark):
                plane = Plane(2)
                told = self.done(plane, self.deeds())
                self.assertIsNone(plane.back(mark))
                self.assertEqual(self.seen(plane), told[mark])
                number = len([deed for deed in self.deeds()[:mark] if deed[0] == "lay"])
                self.assertEqual(next_number(plane), number)
                self.assertEqual(self.done(plane, self.deeds()[mark:]), told[mark:])

    def test_step_by_step_back(self):
        plane = Plane(2)
        told = self.done(plane, self.deeds())
        for mark in reversed(range(len(told))):
            plane.back(mark)
            self.assertEqual(self.seen(plane), told[mark])

    def test_other_deeds_behind_that_and_led_back_again(self):
        plane = Plane(2)
        told = self.done(plane, self.deeds()[:5])
        plane.back(3)
        self.assertEqual(plane.mark(), 3)
        more = self.done(plane, [("take", 1), ("lay", rows_of("9,9,9")[0], ONE), ("narrow",)])
        self.assertEqual(numbers_of(plane), [0, 2])
        self.check_refused(NoMark, plane, "back", 7)
        plane.back(4)
        self.assertEqual(self.seen(plane), more[1])
        plane.back(2)
        self.assertEqual(self.seen(plane), told[2])
        self.assertEqual(plane.lay(rows_of("1,1")[0], ONE), 2)
        plane.back(0)
        self.assertEqual(self.seen(plane), told[0])
        self.assertEqual(plane.lay(rows_of("1,1")[0], ONE), 0)

    def test_to_the_present_mark_nothing_changes(self):
        plane = busy_plane()
        before = [self.seen(plane), next_number(plane)]
        plane.back(plane.mark())
        self.assertEqual([self.seen(plane), next_number(plane)], before)
        self.assertEqual(plane.mark(), 11)

    def test_what_is_refused_is_no_deed(self):
        plane = Plane(1)
        plane.lay([ONE], ONE)
        for deed in (("lay", [], ONE), ("take", 7), ("widen", []), ("back", 2)):
            self.assertRaises(ValueError, getattr(plane, deed[0]), *deed[1:])
        plane.narrow()
        self.assertRaises(NoColumn, plane.narrow)
        self.assertEqual(plane.mark(), 2)

    def test_what_is_no_mark_is_refused(self):
        plane = busy_plane()
        for mark in kinds_of_anything() + [12, 13, -1, -11, 10 ** 200, "", "0", "3", [], [0], NOUGHT]:
            self.check_refused(NoMark, plane, "back", mark)
        for mark in (1, -1, True, False, None, "0"):
            self.check_refused(NoMark, Plane(3), "back", mark)

    def test_planes_know_nothing_of_one_another(self):
        one = Plane(1)
        other = Plane(1)
        one.lay([ONE], ONE)
        self.assertEqual([other.points(), other.mark(), next_number(other)], [[], 0, 0])


if __name__ == "__main__":
    unittest.main()
