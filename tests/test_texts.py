"""Point [5]: how ratios and rows are written, and which texts tell them."""

import unittest

from nearplane.errors import NoText, PlaneError
from nearplane.ratios import is_ratio
from nearplane.texts import read, read_row, shown, shown_row
from tests.things import RATIOS, kinds_of_anything, label

NO_RATIOS = [
    "", " ", "-", "+", "/", "-/", "//", "1/", "/2", "-/2", "1//2", "1/2/3", "1/2/", "/1/2",
    "00", "01", "007", "-01", "-00", "01/2", "-01/2", "1/02", "1/00", "00/1",
    "-0", "-0/1", "-0/2", "0/1", "0/2", "0/7", "+0", "+1", "+1/2", "1/+2", "--1", "-+1", "1-", "1-2",
    " 1", "1 ", "1 /2", "1/ 2", " 1/2", "1/2 ", "- 1", "1 2", "\t1", "1\n", "1/2\n", "\n", "1\r",
    "1/0", "-1/0", "0/0", "1/1", "5/1", "-5/1", "1/-2", "-1/-2", "1/-0", "1/-1",
    "2/4", "-2/4", "3/3", "6/3", "-9/6", "10/100",
    "1.0", "1.", ".5", "1e3", "1_000", "1/1_0", "0x1", "a", "one", "1a", "a/2", "1/a", "None", "True", "(1, 2)",
    "1,2", ",", "1:2", "1\\2", "\0", "1\0",
]
SIXTY_NINES = "9" * 60
TEN_AND_NOUGHTS = "1" + "0" * 59
SIXTY_ONE = "1" + "0" * 60


class Shown(unittest.TestCase):
    def test_plain_ones(self):
        told = {
            (0, 1): "0", (1, 1): "1", (-1, 1): "-1", (10, 1): "10", (-205, 1): "-205",
            (1, 2): "1/2", (-1, 2): "-1/2", (10, 3): "10/3", (-7, 100): "-7/100",
        }
        for one, text in told.items():
            self.assertEqual(shown(one), text)
            self.assertEqual(read(text), one)

    def test_more_than_sixty_figures_are_written_too(self):
        self.assertEqual(shown((10 ** 300, 1)), "1" + "0" * 300)
        self.assertEqual(shown((-1, 10 ** 300)), "-1/1" + "0" * 300)

    def test_each_is_read_again(self):
        short = [one for one in RATIOS if max(abs(one[0]), one[1]) < 10 ** 60]
        self.assertGreater(len(short), 20)
        for one in short + [(top, 7) for top in range(-6, 7) if top != 0]:
            self.assertEqual(read(shown(one)), one)


class Read(unittest.TestCase):
    def test_told_kinds(self):
        for text in ("0", "-3", "10/3"):
            one = read(text)
            self.assertTrue(is_ratio(one))
            self.assertEqual([type(one), type(one[0]), type(one[1])], [tuple, int, int])

    def test_texts_that_tell_none(self):
        for text in NO_RATIOS:
            with self.subTest(text), self.assertRaises(NoText):
                read(text)

    def test_each_sign_by_itself_or_within(self):
        for code in range(128):
            sign = chr(code)
            if sign in "0123456789":
                self.assertEqual(read(sign), (code - 48, 1))
                continue
            for text in (sign, "1" + sign, "1/2" + sign, "3/" + sign + "2"):
                with self.subTest(text), self.assertRaises(NoText):
                    read(text)

    def test_sixty_figures_are_read(self):
        for text in (SIXTY_NINES, "-" + SIXTY_NINES, TEN_AND_NOUGHTS):
            self.assertEqual(read(text), (int(text), 1))
        self.assertEqual(read("-" + SIXTY_NINES + "/" + TEN_AND_NOUGHTS), (-int(SIXTY_NINES), 10 ** 59))
        self.assertEqual(read("1/" + SIXTY_NINES), (1, 10 ** 60 - 1))

    def test_sixty_one_figures_are_refused(self):
        texts = (SIXTY_ONE, "-" + SIXTY_ONE, SIXTY_ONE + "/3", "1/" + SIXTY_ONE, "9" * 5000, "1/" + "9" * 5000)
        for text in texts + ("0" * 61, "-" + "0" * 61):
            with self.subTest(text[:70]), self.assertRaises(NoText):
                read(text)

    def test_great_ones_not_in_lowest_terms(self):
        for text in (SIXTY_NINES + "/3", "-" + SIXTY_NINES + "/" + SIXTY_NINES, "2/" + TEN_AND_NOUGHTS):
            with self.subTest(text), self.assertRaises(NoText):
                read(text)

    def test_what_is_no_text(self):
        for thing in kinds_of_anything() + [0, 1, [], ["1"], [(1, 1)], (1, 1), ("1",)]:
            with self.subTest(label(thing)), self.assertRaises(NoText):
                read(thing)

    def test_the_refusal_is_a_value_error(self):
        for refusal in (PlaneError, ValueError):
            with self.assertRaises(refusal):
                read("01")


class Rows(unittest.TestCase):
    def test_none_one_and_several(self):
        told = [
            ([], ""), ([(0, 1)], "0"), ([(-1, 2)], "-1/2"), ([(0, 1), (0, 1)], "0,0"),
            ([(1, 1), (-1, 2), (0, 1), (10, 3)], "1,-1/2,0,10/3"),
        ]
        for row, text in told:
            self.assertEqual(shown_row(row), text)
            self.assertEqual(read_row(text), row)
            self.assertIs(type(read_row(text)), list)

    def test_a_hundred(self):
        row = [(k, 101) for k in range(1, 101)]
        self.assertEqual(read_row(shown_row(row)), row)

    def test_commas_out_of_place(self):
        for text in (",", ",,", ",1", "1,", "1,,2", ",1,2", "1,2,", "1/2,", "1;2", "1 2", "1, 2", "1 ,2", "1,2\n"):
            with self.subTest(text), self.assertRaises(NoText):
                read_row(text)

    def test_one_thing_that_is_none(self):
        for text in NO_RATIOS:
            if text in ("", "1,2"):
                continue
            for row in (text, text + ",1", "1," + text, "1," + text + ",1/2"):
                with self.subTest(row), self.assertRaises(NoText):
                    read_row(row)

    def test_figures_are_counted_for_each_number(self):
        text = SIXTY_NINES + "," + "-1/" + SIXTY_NINES
        self.assertEqual(read_row(text), [(10 ** 60 - 1, 1), (-1, 10 ** 60 - 1)])
        with self.assertRaises(NoText):
            read_row("1," + SIXTY_ONE)

    def test_what_is_no_text(self):
        for thing in kinds_of_anything() + [0, 1, [], ["1"], [(1, 1)], (1, 1), ("1",)]:
            with self.subTest(label(thing)), self.assertRaises(NoText):
                read_row(thing)


if __name__ == "__main__":
    unittest.main()
