"""Point [2]: what is handed in stays as it was, and told lists are the asker's own."""

import copy
import unittest

from nearplane.deeds import done, led_back
from nearplane.equations import answer, inverse, measure, reduced
from nearplane.errors import PlaneError
from nearplane.ratios import NOUGHT, ONE, is_ratio, is_whole, less, minus, over, plus, ratio, times
from nearplane.rows import added, dot, is_row, is_still, mixed, scaled, taken
from nearplane.tables import product, turned, unit
from nearplane.texts import read, read_row, shown, shown_row
from nearplane.upright import dots, lefts, nearest, square
from tests.things import rows_of

ROW = [(1, 2), (-1, 3), (0, 1)]
OTHER = [(1, 2), (1, 6), (-5, 1)]
STILL = [(0, 1), (0, 1), (0, 1)]
HALF = (1, 2)
SQUARE = rows_of("2,1", "1/3,-1")
ALIKE = rows_of("1,2", "1,2", "2,4")
EMPTY = [[], [], []]
WEIGHTS = [ONE, HALF, (3, 1)]
DEEDS = [("swap", 0, 1), ("scale", 1, HALF), ("add", 0, 1, (-2, 3))]

# Noughts, ones and single rows are among them: there a shortcut would tell what was handed in.
CALLS = [
    (is_whole, [[1]]), (is_ratio, [[1, 2]]), (is_ratio, [([1], {2: [3]})]), (ratio, [6, 4]),
    (plus, [HALF, NOUGHT]), (minus, [HALF, NOUGHT]), (times, [HALF, ONE]), (over, [HALF, ONE]), (less, [HALF, ONE]),
    (shown, [HALF]), (read, ["1/2"]), (shown_row, [ROW]), (shown_row, [[]]), (read_row, [""]), (read_row, ["1/2,3"]),
    (is_row, [ROW, 3]), (is_row, [ROW, 2]), (is_row, [[[1], {2: [3]}], 2]), (is_still, [ROW]), (is_still, [STILL]),
    (added, [ROW, OTHER]), (added, [ROW, STILL]), (added, [STILL, ROW]), (added, [[], []]),
    (taken, [ROW, OTHER]), (taken, [ROW, STILL]), (taken, [[], []]),
    (scaled, [ROW, HALF]), (scaled, [ROW, ONE]), (scaled, [STILL, NOUGHT]), (scaled, [[], ONE]),
    (dot, [ROW, OTHER]), (dot, [ROW, OTHER, None]), (dot, [ROW, OTHER, [ONE, HALF, ONE]]),
    (mixed, [[ROW, OTHER], [HALF, ONE], 3]), (mixed, [[ROW], [ONE], 3]), (mixed, [[ROW, OTHER], [ONE, NOUGHT], 3]),
    (mixed, [[], [], 3]), (mixed, [[], [], 0]), (mixed, [[[]], [ONE], 0]),
    (turned, [SQUARE, 2]), (turned, [ALIKE, 2]), (turned, [[], 3]), (turned, [EMPTY, 0]), (turned, [[[ONE]], 1]),
    (product, [SQUARE, SQUARE, 2]), (product, [unit(3), ALIKE, 2]), (product, [ALIKE, unit(2), 2]),
    (product, [EMPTY, [], 2]), (product, [[], [], 2]), (product, [ALIKE, [[], []], 0]),
    (unit, [0]), (unit, [1]), (unit, [4]),
    (done, [SQUARE, DEEDS]), (done, [SQUARE, []]), (done, [ALIKE, []]), (done, [ALIKE, DEEDS]), (done, [EMPTY, DEEDS]),
    (done, [ALIKE, [("swap", 0, 1)]]), (done, [ALIKE, [("scale", 0, ONE)]]), (done, [[], []]),
    (done, [ALIKE, [("add", 0, 1, NOUGHT)]]), (led_back, [DEEDS]), (led_back, [[]]), (led_back, [[("swap", 0, 1)]]),
    (reduced, [SQUARE, 2]), (reduced, [ALIKE, 2]), (reduced, [unit(3), 3]), (reduced, [EMPTY, 0]), (reduced, [[], 3]),
    (reduced, [[STILL, STILL], 3]), (measure, [SQUARE]), (measure, [[]]), (inverse, [SQUARE]), (inverse, [unit(3)]),
    (inverse, [[]]), (answer, [SQUARE, [ONE, HALF], 2]), (answer, [ALIKE, [ONE, ONE, (2, 1)], 2]),
    (answer, [ALIKE, [ONE, ONE, ONE], 2]), (answer, [[], [], 3]), (answer, [EMPTY, STILL, 0]),
    (answer, [EMPTY, ROW, 0]), (answer, [unit(3), ROW, 3]), (answer, [[STILL], [ONE], 3]),
    (lefts, [[ROW, OTHER, ROW], WEIGHTS]), (lefts, [[STILL, ROW], WEIGHTS]),
    (lefts, [EMPTY, []]), (lefts, [[], WEIGHTS]),
    (nearest, [[ROW, OTHER], WEIGHTS, WEIGHTS]), (nearest, [[], ROW, WEIGHTS]), (nearest, [[STILL], ROW, WEIGHTS]),
    (nearest, [EMPTY, [], []]), (dots, [[ROW, OTHER, ROW], WEIGHTS]), (dots, [[], WEIGHTS]), (dots, [EMPTY, []]),
    (square, [ROW, WEIGHTS]),
]
REFUSED = [
    (done, [ALIKE, DEEDS + [("swap", 0, 0)]]), (done, [SQUARE, tuple(DEEDS)]), (done, [ALIKE, [["swap", 0, 1]]]),
    (done, [ALIKE, {0: [("swap", 0, 1)]}]), (done, [[], DEEDS]),
    (inverse, [rows_of("1,2", "2,4")]), (inverse, [[[NOUGHT]]]),
]


def lists_in(thing):
    """Each list that a told or handed thing is or holds, at any depth."""
    if not isinstance(thing, (list, tuple)):
        return []
    told = [thing] if isinstance(thing, list) else []
    for part in thing:
        told += lists_in(part)
    return told


def spoil(thing):
    """Changes the lists in a thing in each way that a later answer might show."""
    for one in reversed(lists_in(thing)):
        if one:
            one[0] = (99, 1)
        one.append((98, 1))


def are_apart(lists):
    return len({id(one) for one in lists}) == len(lists)


class Kept(unittest.TestCase):
    def check_each(self, check):
        for call, given in CALLS:
            with self.subTest(call.__name__, given=given):
                handed = copy.deepcopy(given)
                check(call, given, handed, call(*handed))

    def test_what_is_handed_in_is_not_changed(self):
        def check(call, given, handed, told):
            self.assertEqual(handed, given)
        self.check_each(check)

    def test_what_is_handed_in_and_refused_is_not_changed(self):
        for call, given in REFUSED:
            with self.subTest(call.__name__, given=given):
                handed = copy.deepcopy(given)
                with self.assertRaises(PlaneError):
                    call(*handed)
                self.assertEqual(handed, given)

    def test_the_same_call_tells_the_same_again(self):
        def check(call, given, handed, told):
            self.assertEqual(call(*handed), told)
        self.check_each(check)

    def test_told_lists_are_the_askers_own(self):
        def check(call, given, handed, told):
            kept = copy.deepcopy(told)
            spoil(told)
            self.assertEqual(handed, given)
            self.assertEqual(call(*handed), kept)
        self.check_each(check)

    def test_no_told_list_is_another_one_or_was_handed_in(self):
        def check(call, given, handed, told):
            # Asked once more, since a list that the program keeps would be told again.
            again = call(*handed)
            own = lists_in(told) + lists_in(again)
            self.assertTrue(are_apart(own))
            self.assertFalse({id(one) for one in own} & {id(one) for one in lists_in(handed)})
        self.check_each(check)

    def test_a_row_handed_in_twice_is_told_as_two(self):
        row = [ONE, HALF]
        tables = [
            done([row, row], []), done([row, row], [("swap", 0, 1)]), turned([row, row], 2), reduced([row, row], 2)[1],
            product([row, row], [row, row], 2), dots([row, row], row), lefts([row, row, row], row),
        ]
        for told in tables:
            self.assertTrue(are_apart(lists_in(told) + [row]))
        self.assertEqual(row, [ONE, HALF])

    def test_a_handed_list_changed_later_leaves_what_was_told(self):
        def check(call, given, handed, told):
            kept = copy.deepcopy(told)
            spoil(handed)
            self.assertEqual(told, kept)
            self.assertEqual(call(*copy.deepcopy(given)), kept)
        self.check_each(check)


if __name__ == "__main__":
    unittest.main()
