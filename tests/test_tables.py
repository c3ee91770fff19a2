"""Point [7]: tables turned, products, unit tables."""

import unittest

from nearplane.ratios import NOUGHT, ONE
from nearplane.rows import is_row
from nearplane.tables import product, turned, unit
from tests.things import LARGE, hanging_table, plain_product, rows_of, some_table

SHAPES = [(many, wide) for many in range(5) for wide in range(5)] + [(1, 12), (12, 1), (7, 9)]


class Tables(unittest.TestCase):
    def check_shape(self, table, many, wide):
        self.assertIs(type(table), list)
        self.assertEqual(len(table), many)
        for row in table:
            self.assertTrue(is_row(row, wide))
        self.assertEqual(len({id(row) for row in table}), many)


class Turned(Tables):
    def test_several_rows_and_columns(self):
        self.assertEqual(turned(rows_of("1,1/2,3", "-4,0,6"), 3), rows_of("1,-4", "1/2,0", "3,6"))
        self.assertEqual(turned(rows_of("1,2", "3,4"), 2), rows_of("1,3", "2,4"))
        self.assertEqual(turned(rows_of("1", "2", "3"), 1), rows_of("1,2,3"))
        self.assertEqual(turned(rows_of("1,2,3"), 3), rows_of("1", "2", "3"))

    def test_no_rows(self):
        self.assertEqual(turned([], 1), [[]])
        self.assertEqual(turned([], 3), [[], [], []])
        self.check_shape(turned([], 3), 3, 0)

    def test_rows_of_no_things(self):
        self.assertEqual(turned([[]], 0), [])
        self.assertEqual(turned([[], [], []], 0), [])

    def test_no_rows_and_no_things(self):
        self.assertEqual(turned([], 0), [])

    def test_thing_by_thing(self):
        for many, wide in SHAPES:
            table = some_table(1, many, wide)
            told = turned(table, wide)
            self.check_shape(told, wide, many)
            for i in range(many):
                for j in range(wide):
                    self.assertEqual(told[j][i], table[i][j])

    def test_twice_it_is_the_table_again(self):
        for many, wide in SHAPES:
            table = some_table(2, many, wide)
            self.assertEqual(turned(turned(table, wide), many), table)

    def test_rows_alike_are_lists_of_their_own(self):
        self.check_shape(turned(rows_of("1,1,1", "2,2,2"), 3), 3, 2)


class Product(Tables):
    def test_plain_ones(self):
        self.assertEqual(product(rows_of("1,2", "3,4"), rows_of("0,1", "1,0"), 2), rows_of("2,1", "4,3"))
        self.assertEqual(product(rows_of("0,1", "1,0"), rows_of("1,2", "3,4"), 2), rows_of("3,4", "1,2"))
        self.assertEqual(product(rows_of("1/2,-1"), rows_of("4,1,0", "1/3,0,-5"), 3), rows_of("5/3,1/2,5"))
        self.assertEqual(product(rows_of("2", "-1/3"), rows_of("3,1"), 2), rows_of("6,2", "-1,-1/3"))
        self.assertEqual(product([[(LARGE, 1)]], [[(1, LARGE)]], 1), [[ONE]])

    def test_unlike_shapes_against_fractions(self):
        for many in range(4):
            for middle in range(4):
                for wide in range(5):
                    with self.subTest(many=many, middle=middle, wide=wide):
                        one, other = some_table(3, many, middle), some_table(4, middle, wide)
                        told = product(one, other, wide)
                        self.check_shape(told, many, wide)
                        self.assertEqual(told, plain_product(one, other, wide))

    def test_the_unit_at_either_hand(self):
        for many, wide in SHAPES:
            table = some_table(5, many, wide)
            self.assertEqual(product(unit(many), table, wide), table)
            self.assertEqual(product(table, unit(wide), wide), table)

    def test_three_tables_whichever_two_come_first(self):
        for shape in ((2, 3, 4, 2), (1, 4, 1, 3), (3, 2, 2, 3), (2, 0, 3, 1), (3, 2, 0, 2), (0, 2, 3, 4), (2, 3, 1, 0)):
            first, second, third = [some_table(6 + k, shape[k], shape[k + 1]) for k in range(3)]
            left = product(product(first, second, shape[2]), third, shape[3])
            right = product(first, product(second, third, shape[3]), shape[3])
            self.assertEqual(left, right)
            self.check_shape(left, shape[0], shape[3])

    def test_no_rows_in_the_middle(self):
        self.assertEqual(product([[], []], [], 3), rows_of("0,0,0", "0,0,0"))
        self.check_shape(product([[], []], [], 3), 2, 3)
        self.assertEqual(product([[], []], [], 0), [[], []])
        self.assertEqual(product([], [], 3), [])

    def test_no_rows_and_no_columns(self):
        self.assertEqual(product([], rows_of("1,2", "3,4"), 2), [])
        self.assertEqual(product(rows_of("1,2", "3,4"), [[], []], 0), [[], []])
        self.check_shape(product(rows_of("1,2", "3,4"), [[], []], 0), 2, 0)

    def test_turned_it_is_the_product_of_the_turned_ones_in_the_other_order(self):
        one, other = some_table(9, 3, 2), hanging_table(10, 2, 4, 1)
        left = turned(product(one, other, 4), 4)
        self.assertEqual(left, product(turned(other, 4), turned(one, 2), 3))

    def test_rows_alike_are_lists_of_their_own(self):
        row = rows_of("1,0")[0]
        other = rows_of("5,6,7", "8,9,10")
        told = product([row, row, [ONE, NOUGHT]], other, 3)
        self.assertEqual(told, rows_of("5,6,7", "5,6,7", "5,6,7"))
        self.check_shape(told, 3, 3)


class Unit(Tables):
    def test_few_rows(self):
        self.assertEqual(unit(0), [])
        self.assertEqual(unit(1), rows_of("1"))
        self.assertEqual(unit(2), rows_of("1,0", "0,1"))
        self.assertEqual(unit(3), rows_of("1,0,0", "0,1,0", "0,0,1"))

    def test_many_rows(self):
        told = unit(20)
        self.check_shape(told, 20, 20)
        for i, row in enumerate(told):
            self.assertEqual(row, [ONE if i == j else NOUGHT for j in range(20)])

    def test_turned_it_is_itself(self):
        for many in range(6):
            self.assertEqual(turned(unit(many), many), unit(many))


if __name__ == "__main__":
    unittest.main()
