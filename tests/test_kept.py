"""Point [2]: what is handed in stays as it was, and told lists are the asker's own."""

import copy
import unittest

from nearplane.ratios import NOUGHT, ONE, is_ratio, is_whole, less, minus, over, plus, ratio, times
from nearplane.rows import added, dot, is_row, is_still, mixed, scaled, taken
from nearplane.texts import read, read_row, shown, shown_row

ROW = [(1, 2), (-1, 3), (0, 1)]
OTHER = [(1, 2), (1, 6), (-5, 1)]
STILL = [(0, 1), (0, 1), (0, 1)]
HALF = (1, 2)

# Noughts, ones and single rows are among them: there a shortcut would tell what was handed in.
CALLS = [
    (is_whole, [[1]]), (is_ratio, [[1, 2]]), (is_ratio, [([1], {2: [3]})]), (ratio, [6, 4]),
    (plus, [HALF, NOUGHT]), (minus, [HALF, NOUGHT]), (times, [HALF, ONE]), (over, [HALF, ONE]), (less, [HALF, ONE]),
    (shown, [HALF]), (read, ["1/2"]), (shown_row, [ROW]), (shown_row, [[]]), (read_row, [""]), (read_row, ["1/2,3"]),
    (is_row, [ROW, 3]), (is_row, [ROW, 2]), (is_row, [[[1], {2: [3]}], 2]), (is_still, [ROW]), (is_still, [STILL]),
    (added, [ROW, OTHER]), (added, [ROW, STILL]), (added, [STILL, ROW]), (added, [[], []]),
    (taken, [ROW, OTHER]), (taken, [ROW, STILL]), (taken, [[], []]),
    (scaled, [ROW, HALF]), (scaled, [ROW, ONE]), (scaled, [STILL, NOUGHT]), (scaled, [[], ONE]),
    (dot, [ROW, OTHER]), (dot, [ROW, OTHER, None]), (dot, [ROW, OTHER, [ONE, HALF, ONE]]),
    (mixed, [[ROW, OTHER], [HALF, ONE], 3]), (mixed, [[ROW], [ONE], 3]), (mixed, [[ROW, OTHER], [ONE, NOUGHT], 3]),
    (mixed, [[], [], 3]), (mixed, [[], [], 0]), (mixed, [[[]], [ONE], 0]),
]


def spoil(thing):
    """Changes a list, and the lists in it, in each way that a later answer might show."""
    for part in thing:
        if isinstance(part, list):
            spoil(part)
    if thing:
        thing[0] = (99, 1)
    thing.append((98, 1))


class Kept(unittest.TestCase):
    def test_what_is_handed_in_is_not_changed(self):
        for call, given in CALLS:
            with self.subTest(call.__name__, given=given):
                handed = copy.deepcopy(given)
                call(*handed)
                self.assertEqual(handed, given)

    def test_the_same_call_tells_the_same_again(self):
        for call, given in CALLS:
            with self.subTest(call.__name__, given=given):
                handed = copy.deepcopy(given)
                self.assertEqual(call(*handed), call(*handed))

    def test_a_told_list_is_the_askers_own(self):
        for call, given in CALLS:
            handed = copy.deepcopy(given)
            told = call(*handed)
            if not isinstance(told, list):
                continue
            with self.subTest(call.__name__, given=given):
                kept = copy.deepcopy(told)
                spoil(told)
                self.assertEqual(handed, given)
                self.assertEqual(call(*handed), kept)

    def test_a_handed_list_changed_later_leaves_what_was_told(self):
        for call, given in CALLS:
            handed = copy.deepcopy(given)
            told = call(*handed)
            with self.subTest(call.__name__, given=given):
                kept = copy.deepcopy(told)
                for part in handed:
                    if isinstance(part, list):
                        spoil(part)
                self.assertEqual(told, kept)
                self.assertEqual(call(*copy.deepcopy(given)), kept)


if __name__ == "__main__":
    unittest.main()
