"""Points [9], [10], [11]: reduced tables, measures, inverses, answers."""

import itertools
import unittest
from fractions import Fraction

from nearplane.deeds import done, led_back
from nearplane.equations import answer, inverse, measure, reduced
from nearplane.errors import NoInverse, PlaneError
from nearplane.ratios import NOUGHT, ONE, minus, ratio, times
from nearplane.rows import added, is_row, is_still, mixed, scaled
from nearplane.tables import product, turned, unit
from tests.things import LARGE, as_fraction, as_ratio, hanging_table, plain_dot, rows_of, some_row, some_table

DEEDS = [("swap", 0, 2), ("add", 1, 0, (3, 2)), ("scale", 2, (-5, 4)), ("add", 0, 2, (-1, 3)), ("swap", 1, 2)]
NO_INVERSE = [
    rows_of("0"), rows_of("1,2", "2,4"), rows_of("0,0", "0,0"), rows_of("0,1", "0,3"), rows_of("1,2", "0,0"),
    rows_of("1,2,3", "4,5,6", "7,8,9"), hanging_table(1, 4, 4, 3), hanging_table(2, 5, 5, 2),
]


def trial_tables():
    """Pairs of a table and its wide: with rows that hang on one another, of noughts, wide, narrow, empty."""
    told = [(some_table(seed, many, wide), wide) for seed, many in enumerate(range(6)) for wide in range(6)]
    told += [(hanging_table(seed, 4, 5, rank), 5) for seed in range(3) for rank in range(4)]
    told += [(hanging_table(seed, 6, 3, rank), 3) for seed in range(3) for rank in range(3)]
    told += [([[NOUGHT] * wide for _ in range(many)], wide) for many in range(4) for wide in range(4)]
    told += [(table, len(table)) for table in NO_INVERSE]
    told += [
        (rows_of("0,0,0", "0,0,2", "0,3,0"), 3), (rows_of("0,0,1", "0,0,1", "0,0,0", "5,0,1"), 3),
        (rows_of("0,1/2,0,3"), 4), (rows_of("0", "0", "-7", "2"), 1), (rows_of("1,2,3", "0,0,0", "2,4,6", "0,1,1"), 3),
        ([[(LARGE, 7), (1, LARGE)], [(1, 7), (-LARGE, 1)]], 2),
    ]
    return told


def places_of_firsts(table):
    """For each row the place of its first thing that is not 0, or None."""
    return [next((k for k, thing in enumerate(row) if thing != NOUGHT), None) for row in table]


def plain_measure(table):
    """The measure as the sum over all orders of the rows, each with its sign."""
    many = len(table)
    told = Fraction(0)
    for order in itertools.permutations(range(many)):
        part = Fraction((-1) ** sum(order[i] > order[j] for i in range(many) for j in range(i + 1, many)))
        for i in range(many):
            part *= as_fraction(table[i][order[i]])
        told += part
    return as_ratio(told)


def stirred(table):
    """Another table that deeds make of this one: each row is scaled, added to and swapped."""
    last = len(table) - 1
    deeds = [("scale", k, ratio(-k - 2, 3)) for k in range(len(table))]
    deeds += [("add", k, last, (-3, 4)) for k in range(last)] + [("add", last, k, (2, 5)) for k in range(last)]
    return done(table, deeds + [("swap", k, last) for k in range(last)])


class Reduced(unittest.TestCase):
    def check_is_reduced(self, table, wide, firsts):
        found = places_of_firsts(table)
        standing = [place for place in found if place is not None]
        self.assertEqual(found, standing + [None] * (len(table) - len(standing)))
        self.assertEqual(standing, sorted(set(standing)))
        self.assertEqual(firsts, standing)
        for k, place in enumerate(firsts):
            self.assertEqual([row[place] for row in table], [ONE if i == k else NOUGHT for i in range(len(table))])

    def test_told_deeds_lead_to_the_told_table_which_is_reduced(self):
        for table, wide in trial_tables():
            with self.subTest(table=table, wide=wide):
                told = reduced(table, wide)
                self.assertEqual([type(told), len(told)], [tuple, 3])
                deeds, led, firsts = told
                self.assertEqual([type(deeds), type(led), type(firsts)], [list, list, list])
                self.assertEqual(len(led), len(table))
                for row in led:
                    self.assertTrue(is_row(row, wide))
                self.assertEqual(done(table, deeds), led)
                self.assertEqual(done(led, led_back(deeds)), table)
                self.check_is_reduced(led, wide, firsts)

    def test_plain_ones(self):
        told = [
            (rows_of("2,4", "1,3"), 2, rows_of("1,0", "0,1"), [0, 1]),
            (rows_of("0,2", "3,0"), 2, rows_of("1,0", "0,1"), [0, 1]),
            (rows_of("1,2,3", "4,5,6", "7,8,9"), 3, rows_of("1,0,-1", "0,1,2", "0,0,0"), [0, 1]),
            (rows_of("0,0,2,4", "0,3,0,-1"), 4, rows_of("0,1,0,-1/3", "0,0,1,2"), [1, 2]),
            (rows_of("0,5,10"), 3, rows_of("0,1,2"), [1]),
            (rows_of("0", "0", "-7", "2"), 1, rows_of("1", "0", "0", "0"), [0]),
            (rows_of("0,0", "0,0"), 2, rows_of("0,0", "0,0"), []),
            (rows_of("1,1,1", "1,1,1"), 3, rows_of("1,1,1", "0,0,0"), [0]),
        ]
        for table, wide, led, firsts in told:
            self.assertEqual(reduced(table, wide)[1:], (led, firsts))

    def test_no_rows_and_no_columns(self):
        self.assertEqual(reduced([], 0), ([], [], []))
        self.assertEqual(reduced([], 3), ([], [], []))
        deeds, led, firsts = reduced([[], [], []], 0)
        self.assertEqual((done([[], [], []], deeds), led, firsts), ([[], [], []], [[], [], []], []))

    def test_a_reduced_table_leads_to_itself(self):
        for table, wide in trial_tables():
            _, led, firsts = reduced(table, wide)
            self.assertEqual(reduced(led, wide)[1:], (led, firsts))

    def test_tables_made_by_deeds_have_the_same_one(self):
        for table, wide in trial_tables():
            with self.subTest(table=table, wide=wide):
                self.assertEqual(reduced(stirred(table), wide)[1:], reduced(table, wide)[1:])
                if len(table) >= 3:
                    self.assertEqual(reduced(done(table, DEEDS), wide)[1:], reduced(table, wide)[1:])
                backwards = list(reversed(table))
                self.assertEqual(reduced(backwards, wide)[1:], reduced(table, wide)[1:])

    def test_rows_that_are_mixes_become_noughts(self):
        rows = some_table(3, 2, 5)
        mix = mixed(rows, [(2, 3), (-1, 1)], 5)
        _, led, firsts = reduced([mix] + rows + [mix, [NOUGHT] * 5], 5)
        self.assertEqual(led[:2], reduced(rows, 5)[1])
        self.assertEqual(led[2:], [[NOUGHT] * 5] * 3)
        self.assertEqual(len(firsts), 2)


class Measure(unittest.TestCase):
    def test_plain_ones(self):
        told = [
            ([], "1"), (rows_of("5"), "5"), (rows_of("-1/3"), "-1/3"), (rows_of("0"), "0"),
            (rows_of("1,2", "3,4"), "-2"), (rows_of("0,1", "1,0"), "-1"), (rows_of("2,0", "0,3"), "6"),
            (rows_of("1/2,1/3", "1/4,1/5"), "1/60"), (rows_of("0,0,2", "3,0,0", "0,5,0"), "30"),
            (rows_of("2,-1,0", "1,3,2", "0,1,-4"), "-32"),
        ]
        for table, text in told:
            self.assertEqual([[measure(table)]], rows_of(text))

    def test_unit_tables(self):
        for many in range(8):
            self.assertEqual(measure(unit(many)), ONE)

    def test_against_the_sum_over_all_orders(self):
        for many in range(6):
            for seed in range(4):
                table = some_table(seed, many, many)
                self.assertEqual(measure(table), plain_measure(table))

    def test_behind_a_swap_a_scale_and_an_add(self):
        for seed in range(5):
            table = some_table(seed, 4, 4)
            before = measure(table)
            for i, j in itertools.permutations(range(4), 2):
                self.assertEqual(measure(done(table, [("swap", i, j)])), minus(NOUGHT, before))
                self.assertEqual(measure(done(table, [("add", i, j, (-7, 3))])), before)
                self.assertEqual(measure(done(table, [("scale", i, (-7, 3))])), times(before, (-7, 3)))

    def test_products_and_turned_tables(self):
        for many in range(5):
            one, other = some_table(many, many, many), some_table(many + 7, many, many)
            self.assertEqual(measure(product(one, other, many)), times(measure(one), measure(other)))
            self.assertEqual(measure(turned(one, many)), measure(one))

    def test_nought_where_rows_hang_on_one_another(self):
        for table in NO_INVERSE:
            self.assertEqual(measure(table), NOUGHT)
        table = some_table(2, 3, 3)
        table[1] = added(scaled(table[0], (1, 3)), scaled(table[2], (-4, 1)))
        self.assertEqual(measure(table), NOUGHT)


class Inverse(unittest.TestCase):
    def tables_with_one(self):
        told = [some_table(seed, many, many) for many in range(6) for seed in range(4)]
        told += [unit(many) for many in range(5)] + [rows_of("0,0,2", "3,0,0", "0,5,0"), [[(LARGE, 7)]]]
        return [table for table in told if plain_measure(table) != NOUGHT]

    def test_plain_ones(self):
        self.assertEqual(inverse([]), [])
        self.assertEqual(inverse(rows_of("-2/3")), rows_of("-3/2"))
        self.assertEqual(inverse(rows_of("1,2", "3,4")), rows_of("-2,1", "3/2,-1/2"))
        self.assertEqual(inverse(rows_of("0,1", "1,0")), rows_of("0,1", "1,0"))
        self.assertEqual(inverse(unit(3)), unit(3))

    def test_the_product_in_either_order_is_the_unit_table(self):
        tables = self.tables_with_one()
        self.assertGreater(len(tables), 20)
        for table in tables:
            many = len(table)
            told = inverse(table)
            self.assertEqual(product(told, table, many), unit(many))
            self.assertEqual(product(table, told, many), unit(many))

    def test_the_inverse_of_the_inverse_is_the_table(self):
        for table in self.tables_with_one():
            self.assertEqual(inverse(inverse(table)), table)
            self.assertEqual(times(measure(table), measure(inverse(table))), ONE)

    def test_none_is_refused(self):
        for table in NO_INVERSE:
            for refusal in (NoInverse, PlaneError, ValueError):
                with self.subTest(table=table), self.assertRaises(refusal):
                    inverse(table)


class Answer(unittest.TestCase):
    def check_is(self, table, wants, wide):
        told = answer(table, wants, wide)
        self.assertEqual([type(told), len(told), told[0]], [tuple, 3, "is"])
        _, shares, ways = told
        self.assertTrue(is_row(shares, wide))
        for row, want in zip(table, wants, strict=True):
            self.assertEqual(as_ratio(plain_dot(row, shares)), want)
        firsts = reduced(table, wide)[2]
        free = [column for column in range(wide) if column not in firsts]
        self.assertEqual(len(ways), len(free))
        for way, own in zip(ways, free):
            self.assertTrue(is_row(way, wide))
            self.assertEqual([way[k] for k in free], [ONE if k == own else NOUGHT for k in free])
            self.assertEqual([plain_dot(row, way) for row in table], [0] * len(table))
        self.assertEqual([shares[k] for k in free], [NOUGHT] * len(free))
        return told

    def check_none(self, table, wants, wide):
        told = answer(table, wants, wide)
        self.assertEqual([type(told), len(told), told[0]], [tuple, 2, "none"])
        paper = told[1]
        self.assertTrue(is_row(paper, len(table)))
        self.assertTrue(is_still(mixed(table, paper, wide)))
        self.assertEqual(plain_dot(paper, wants), 1)

    def test_one_answer(self):
        told = self.check_is(rows_of("1,2", "3,4"), rows_of("5,6")[0], 2)
        self.assertEqual(told, ("is", rows_of("-4,9/2")[0], []))
        told = self.check_is(rows_of("0,2", "3,0", "3,2"), rows_of("1,1,2")[0], 2)
        self.assertEqual(told, ("is", rows_of("1/3,1/2")[0], []))

    def test_many_answers(self):
        told = self.check_is(rows_of("1,2,3", "4,5,6"), rows_of("1,1")[0], 3)
        self.assertEqual(told, ("is", rows_of("-1,1,0")[0], rows_of("1,-2,1")))
        told = self.check_is(rows_of("0,2,0,4,1"), rows_of("6")[0], 5)
        ways = rows_of("1,0,0,0,0", "0,0,1,0,0", "0,-2,0,1,0", "0,-1/2,0,0,1")
        self.assertEqual(told, ("is", rows_of("0,3,0,0,0")[0], ways))

    def test_wants_made_of_shares_are_answered(self):
        for k, (table, wide) in enumerate(trial_tables()):
            with self.subTest(table=table, wide=wide):
                chosen = some_row(k, wide)
                wants = [as_ratio(plain_dot(row, chosen)) for row in table]
                _, shares, ways = self.check_is(table, wants, wide)
                free = [column for column in range(wide) if column not in reduced(table, wide)[2]]
                self.assertEqual(added(shares, mixed(ways, [chosen[at] for at in free], wide)), chosen)

    def test_wants_of_noughts(self):
        for table, wide in trial_tables():
            told = self.check_is(table, [NOUGHT] * len(table), wide)
            self.assertEqual(told[1], [NOUGHT] * wide)

    def test_none(self):
        self.check_none(rows_of("1,2", "2,4"), rows_of("1,3")[0], 2)
        self.check_none(rows_of("0,0"), rows_of("-2/7")[0], 2)
        self.check_none(rows_of("0,0", "1,0", "0,0"), rows_of("0,5,1/2")[0], 2)
        self.check_none(rows_of("1,1", "1,-1", "3,1"), rows_of("1,1,4")[0], 2)
        self.check_none(rows_of("1", "2", "3"), rows_of("1,2,4")[0], 1)

    def test_wants_moved_off_at_each_row_that_hangs_on_others(self):
        count = 0
        for k, (table, wide) in enumerate(trial_tables()):
            chosen = some_row(k, wide)
            wants = [as_ratio(plain_dot(row, chosen)) for row in table]
            for at in range(len(table)):
                others = table[:at] + table[at + 1:]
                moved = wants[:at] + [as_ratio(as_fraction(wants[at]) + Fraction(-3, 5))] + wants[at + 1:]
                if len(reduced(others, wide)[2]) == len(reduced(table, wide)[2]):
                    self.check_none(table, moved, wide)
                    count += 1
                else:
                    self.check_is(table, moved, wide)
        self.assertGreater(count, 50)

    def test_no_rows(self):
        for wide in range(4):
            self.assertEqual(answer([], [], wide), ("is", [NOUGHT] * wide, unit(wide)))

    def test_no_unknowns(self):
        self.assertEqual(answer([[]], [NOUGHT], 0), ("is", [], []))
        self.assertEqual(answer([[], []], [NOUGHT, NOUGHT], 0), ("is", [], []))
        self.check_none([[]], [(-3, 2)], 0)
        self.check_none([[], [], []], [NOUGHT, (2, 5), NOUGHT], 0)
        self.check_none([[], []], [ONE, ONE], 0)


if __name__ == "__main__":
    unittest.main()
