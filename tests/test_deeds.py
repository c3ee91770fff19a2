"""Point [8]: deeds done and led back, and what is no deed."""

import copy
import unittest

from nearplane.deeds import done, led_back
from nearplane.errors import NoDeed, PlaneError
from nearplane.ratios import NOUGHT, ONE
from nearplane.tables import product, unit
from tests.things import LARGE, RATIOS, Touchy, kinds_of_anything, label, rows_of, some_table

TABLE = rows_of("1,2", "3,4", "-5,1/2")
HALF = (1, 2)
GOOD = [("swap", 0, 2), ("scale", 1, (-2, 3)), ("add", 2, 0, (5, 7)), ("add", 0, 1, NOUGHT), ("scale", 0, ONE)]
MANY = GOOD + [("swap", 1, 0), ("add", 1, 2, (-1, 4)), ("scale", 2, (3, 1)), ("swap", 2, 1), ("swap", 2, 1)]

NO_ROW = kinds_of_anything() + [
    -1, -2, -3, 3, 4, 100, 10 ** 299, -10 ** 299, "0", "1", "", (0, 1), (1, 1), [0], [1], [],
]
NO_BY = kinds_of_anything() + [0, 1, -1, "1", "1/2", "", [], [1, 2], [1, 1]]
NO_WORD = kinds_of_anything() + [
    "", "Swap", "SWAP", "swap ", " swap", "swaps", "swa", "scaled", "scal", "adds", "ad", "take", "none", "is",
    "swap\n", 0, 1, 2, ["swap"], ("swap",), ["add"], b"swap", b"add",
]

NO_SHAPE = [
    (), ("swap",), ("scale",), ("add",), ("swap", 0), ("scale", 0), ("add", 0), ("add", 0, 1),
    ("swap", 0, 1, 2), ("swap", 0, 1, ONE), ("swap", 0, 1, None), ("swap", 0, HALF),
    ("scale", 0, 1, HALF), ("scale", 0, HALF, HALF), ("scale", 0, HALF, None), ("scale", HALF, 0),
    ("add", 0, 1, HALF, HALF), ("add", 0, 1, HALF, None), ("add", 0, HALF), ("add", 0, HALF, 1), ("add", HALF, 0, 1),
    ["swap", 0, 1], ["scale", 0, HALF], ["add", 0, 1, HALF], {"swap": (0, 1)}, {0: "swap", 1: 0, 2: 1},
    "swap", "add", "swp", 0, 1, [], [("swap", 0, 1)], (("swap", 0, 1),), ("swap", (0, 1)), ("swap", [0, 1]),
    (0, "swap", 1), (0, 1, "swap"), (0, 1, HALF), (0, 1),
    ("swap", 0, 0), ("swap", 1, 1), ("swap", 2, 2), ("add", 0, 0, HALF), ("add", 2, 2, NOUGHT),
    ("swap", 0, False), ("swap", False, 1), ("swap", True, 0), ("swap", 0, True), ("swap", True, False),
    ("scale", False, HALF), ("scale", True, HALF), ("add", False, 1, HALF), ("add", 0, True, HALF),
    ("scale", 0, NOUGHT), ("scale", 2, (0, 1)), ("scale", 0, True), ("add", 0, 1, False),
]


def no_deeds():
    """Things that are no deed of a table with three rows."""
    told = kinds_of_anything() + NO_SHAPE
    for thing in NO_ROW:
        told += [("swap", thing, 1), ("swap", 1, thing), ("scale", thing, HALF)]
        told += [("add", thing, 1, HALF), ("add", 1, thing, HALF)]
    for thing in NO_BY:
        told += [("scale", 1, thing), ("add", 1, 2, thing)]
    for thing in NO_WORD:
        told += [(thing, 0, 1), (thing, 0, HALF), (thing, 0, 1, HALF)]
    return told


class Done(unittest.TestCase):
    def test_swap(self):
        self.assertEqual(done(TABLE, [("swap", 0, 2)]), rows_of("-5,1/2", "3,4", "1,2"))
        self.assertEqual(done(TABLE, [("swap", 2, 0)]), rows_of("-5,1/2", "3,4", "1,2"))
        self.assertEqual(done(TABLE, [("swap", 1, 2)]), rows_of("1,2", "-5,1/2", "3,4"))

    def test_scale(self):
        self.assertEqual(done(TABLE, [("scale", 2, (-2, 5))]), rows_of("1,2", "3,4", "2,-1/5"))
        self.assertEqual(done(TABLE, [("scale", 0, ONE)]), TABLE)
        self.assertEqual(done(TABLE, [("scale", 0, (LARGE, 1))]), [[(LARGE, 1), (2 * LARGE, 1)], TABLE[1], TABLE[2]])

    def test_add_puts_row_j_times_by_to_row_i(self):
        self.assertEqual(done(TABLE, [("add", 0, 1, (2, 1))]), rows_of("7,10", "3,4", "-5,1/2"))
        self.assertEqual(done(TABLE, [("add", 1, 0, (-3, 1))]), rows_of("1,2", "0,-2", "-5,1/2"))
        self.assertEqual(done(TABLE, [("add", 2, 0, HALF)]), rows_of("1,2", "3,4", "-9/2,3/2"))
        self.assertEqual(done(TABLE, [("add", 0, 2, NOUGHT)]), TABLE)

    def test_one_behind_another_from_the_first(self):
        told = done(TABLE, [("swap", 0, 1), ("scale", 0, (2, 1)), ("add", 1, 0, ONE), ("swap", 2, 1)])
        self.assertEqual(told, rows_of("6,8", "-5,1/2", "7,10"))
        self.assertEqual(done(TABLE, [("scale", 0, (2, 1)), ("add", 1, 0, ONE)]), rows_of("2,4", "5,8", "-5,1/2"))
        self.assertEqual(done(TABLE, [("add", 1, 0, ONE), ("scale", 0, (2, 1))]), rows_of("2,4", "4,6", "-5,1/2"))

    def test_many_are_as_one_by_one(self):
        told = TABLE
        for k, deed in enumerate(MANY):
            told = done(told, [deed])
            self.assertEqual(done(TABLE, MANY[:k + 1]), told)

    def test_more_than_a_hundred(self):
        self.assertEqual(done(TABLE, [("add", 0, 1, HALF)] * 150), rows_of("226,302", "3,4", "-5,1/2"))

    def test_they_act_as_a_product_with_what_they_make_of_the_unit(self):
        for wide in (0, 1, 2, 5):
            table = some_table(1, 3, wide)
            self.assertEqual(done(table, MANY), product(done(unit(3), MANY), table, wide))

    def test_rows_of_no_things(self):
        for deed in MANY:
            self.assertEqual(done([[], [], []], [deed]), [[], [], []])
        told = done([[], [], []], MANY)
        self.assertEqual(told, [[], [], []])
        self.assertEqual(len({id(row) for row in told}), 3)

    def test_no_deeds_tell_a_new_table(self):
        for table in (TABLE, [[], []], []):
            told = done(table, [])
            self.assertEqual(told, table)
            self.assertIsNot(told, table)
            for row, other in zip(told, table):
                self.assertIsNot(row, other)

    def test_a_row_handed_in_twice_is_told_as_two(self):
        row = rows_of("1,2")[0]
        told = done([row, row], [])
        told[0].append(ONE)
        self.assertEqual(told[1], row)

    def test_tables_without_rows_and_with_one(self):
        self.assertEqual(done([], []), [])
        self.assertEqual(done(rows_of("1,2"), [("scale", 0, HALF)]), rows_of("1/2,1"))


class LedBack(unittest.TestCase):
    def test_each_deed(self):
        self.assertEqual(led_back([]), [])
        self.assertEqual(led_back([("swap", 0, 2)]), [("swap", 0, 2)])
        self.assertEqual(led_back([("swap", 2, 0)]), [("swap", 2, 0)])
        self.assertEqual(led_back([("scale", 1, (-2, 3))]), [("scale", 1, (-3, 2))])
        self.assertEqual(led_back([("add", 1, 0, (-2, 3))]), [("add", 1, 0, (2, 3))])
        self.assertEqual(led_back([("add", 1, 0, NOUGHT)]), [("add", 1, 0, NOUGHT)])

    def test_from_the_last_to_the_first(self):
        deeds = [("swap", 0, 1), ("scale", 0, (2, 1)), ("add", 1, 0, ONE)]
        self.assertEqual(led_back(deeds), [("add", 1, 0, (-1, 1)), ("scale", 0, HALF), ("swap", 0, 1)])

    def test_done_behind_the_deeds_the_table_is_back(self):
        for seed in range(5):
            table = some_table(seed, 3, 4)
            for k in range(len(MANY) + 1):
                deeds = MANY[:k]
                self.assertEqual(done(done(table, deeds), led_back(deeds)), table)
                self.assertEqual(done(done(table, led_back(deeds)), deeds), table)

    def test_twice_they_are_the_deeds_again(self):
        deeds = MANY + [("scale", 0, by) for by in RATIOS if by != NOUGHT] + [("add", 0, 1, by) for by in RATIOS]
        self.assertEqual(led_back(led_back(deeds)), deeds)
        self.assertIsNot(led_back(led_back(deeds)), deeds)


class NoDeeds(unittest.TestCase):
    def check_refused(self, table, deeds, named):
        kept = copy.deepcopy(table)
        with self.subTest(label(named)):
            with self.assertRaises(NoDeed):
                done(table, deeds)
            self.assertEqual(table, kept)

    def test_what_is_no_deed_at_any_place_of_the_list(self):
        for thing in no_deeds():
            for deeds in ([thing], [thing] + GOOD, GOOD + [thing], GOOD[:2] + [thing] + GOOD[2:]):
                self.check_refused(copy.deepcopy(TABLE), deeds, thing)

    def test_no_list_at_all(self):
        given = [
            None, (), ("swap", 0, 1), (("swap", 0, 1),), tuple(GOOD), "", "swap", "[]", 0, 1, -1, True, False,
            {}, {0: ("swap", 0, 1)}, {("swap", 0, 1): True}, {("swap", 0, 1)}, iter(GOOD), reversed(GOOD), Touchy(),
        ]
        for thing in kinds_of_anything() + given:
            for table in (TABLE, [[], []], []):
                self.check_refused(copy.deepcopy(table), thing, thing)

    def test_rows_that_are_there_in_a_longer_table_alone(self):
        for many in range(4):
            table = some_table(1, many, 2)
            for deed in (("swap", 0, many), ("swap", many, 0), ("scale", many, HALF), ("add", 0, many, ONE)):
                self.check_refused(table, [deed], deed)
                more = some_table(1, max(many, 1) + 1, 2)
                if many > 0 or deed[0] == "scale":
                    self.assertEqual(len(done(more, [deed])), len(more))

    def test_tables_without_rows(self):
        for deed in GOOD + NO_SHAPE:
            self.check_refused([], [deed], deed)

    def test_tables_with_one_row(self):
        for deed in (("swap", 0, 0), ("swap", 0, 1), ("add", 0, 0, ONE), ("add", 0, 1, ONE), ("add", 0, -1, ONE)):
            self.check_refused(rows_of("1,2"), [deed], deed)

    def test_rows_of_no_things(self):
        for deed in NO_SHAPE:
            self.check_refused([[], [], []], [deed], deed)

    def test_the_refusal_is_a_plane_error_and_a_value_error(self):
        for refusal in (PlaneError, ValueError):
            with self.assertRaises(refusal):
                done(TABLE, [("swap", 0, 0)])


if __name__ == "__main__":
    unittest.main()
