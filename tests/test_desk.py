"""Point [25]: the desk, every line, its answer and its refusals."""

import unittest

from nearplane.desk import Desk
from nearplane.errors import NoColumn, NoLine, NoMark, NoName, NoPoint, NotSure, NoText, PlaneError
from nearplane.fits import Fit
from nearplane.floors import floor
from nearplane.texts import shown, shown_row
from tests.things import Touchy, kinds_of_anything, label, points_of

# Each line of the interface, with words that are right for the desk of busy_desk.
LINES = [
    "plane p 2", "end p", "names", "lay p 1 1,2", "lay p 1/2 1,2 3", "take p 0", "widen p 1,2,3", "narrow p",
    "back p 0", "mark p", "told p", "rests p", "pulls p", "squares p", "free p", "ways p", "value p 1,2", "word p 0",
    "floor p 0",
]
LAID = ["1,0 1 2", "1,1 0 1", "1,2 3 1/3"]
NO_NAMES = ["", "abcdefghi", "a" * 30, "P", "pP", "p1", "1", "0", "p-q", "p_", "-", "p,q", "p/q", "p\n", "\tp", "p."]
NO_RATIOS = ["", "x", "+1", "-0", "01", "2/4", "1/1", "1/0", "1/", "/2", "1.5", "1,2", "1/2/3", "1/-2", "--1", "9" * 61]
NO_ROWS = ["", "x", ",", "1,", ",1", "1,,2", "1;2", "[1]", "1,x", "1,2/4", "+1", "1,-0", "01", "1," + "9" * 61]
NO_NUMBERS = ["", "x", "-1", "-0", "+1", "00", "01", "1/2", "1.0", "1,2", "1000000", "0000001", "9" * 20, "1\n"]


def busy_desk():
    """A plane p with points 0, 1, 2 and two columns, h with free columns, e without points, all by some deeds."""
    desk = Desk()
    for line in ["plane p 2", "lay p 1 1,0 2", "lay p 0 1,1", "lay p 3 1,2 1/3", "plane gone 1", "end gone"]:
        desk.say(line)
    for line in ["plane h 3", "lay h 1 1,2,0", "lay h 5 1,2,0 3", "lay h 1 0,0,1", "plane e 2"]:
        desk.say(line)
    return desk


def seen(desk):
    """All that a desk tells, and the number of each plane's next point."""
    told = [desk.say("names")]
    for name in told[0].split():
        told += [desk.say(f"{word} {name}") for word in ("mark", "told", "rests", "pulls", "squares", "free", "ways")]
        mark, shares = told[-7:-5]
        # A plane of no columns takes no point at the desk.
        if shares != "":
            told.append(desk.say(f"lay {name} 0 {shares}"))
            desk.say(f"back {name} {mark}")
    return told


class OfDesks(unittest.TestCase):
    def check(self, desk, *pairs):
        for line, told in pairs:
            with self.subTest(line):
                answer = desk.say(line)
                self.assertIs(type(answer), str)
                self.assertEqual(answer, told)

    def check_refused(self, error, line, desk=None):
        """Refused with this error and no other, and nothing is changed by it."""
        desk = desk or busy_desk()
        before = seen(desk)
        with self.subTest(label(line)):
            with self.assertRaises(PlaneError) as caught:
                desk.say(line)
            self.assertIs(type(caught.exception), error)
            self.assertEqual(seen(desk), before)


class Names(OfDesks):
    def test_planes_are_made_and_ended(self):
        self.check(
            Desk(), ("names", ""), ("plane b 1", "ok"), ("plane abcdefgh 12", "ok"), ("plane a 2", "ok"),
            ("names", "a abcdefgh b"), ("end b", "ok"), ("names", "a abcdefgh"), ("plane z 1", "ok"),
            ("names", "a abcdefgh z"), ("end a", "ok"), ("end abcdefgh", "ok"), ("end z", "ok"), ("names", ""),
        )

    def test_each_width_from_1_to_12(self):
        for wide in range(1, 13):
            self.check(Desk(), (f"plane p {wide}", "ok"), ("told p", ",".join(["0"] * wide)), ("mark p", "0"))

    def test_a_plane_made_anew_under_a_name_that_stands(self):
        desk = busy_desk()
        self.check(
            desk, ("mark p", "3"), ("plane p 3", "ok"), ("mark p", "0"), ("told p", "0,0,0"), ("rests p", ""),
            ("lay p 4 1,0,0", "0"), ("names", "e h p"),
        )

    def test_a_plane_made_behind_an_ended_one_is_new(self):
        self.check(busy_desk(), ("end p", "ok"), ("plane p 2", "ok"), ("rests p", ""), ("lay p 1 1,1", "0"))

    def test_names_that_are_words_of_lines(self):
        desk = Desk()
        self.check(desk, ("plane names 1", "ok"), ("plane plane 1", "ok"), ("names", "names plane"))
        self.check(desk, ("mark plane", "0"))

    def test_desks_know_nothing_of_one_another(self):
        one = busy_desk()
        other = Desk()
        self.check(other, ("names", ""))
        self.check_refused(NoName, "told p", other)
        other.say("plane p 1")
        other.say("lay p 7 1")
        self.assertEqual(seen(one), seen(busy_desk()))
        self.check(other, ("told p", "7"))

    def test_wrong_widths(self):
        for word in NO_NUMBERS + ["0", "13", "14", "100", "999999"]:
            self.check_refused(NoText, f"plane p {word}")
            self.check_refused(NoText, f"plane q {word}")


class Deeds(OfDesks):
    def test_lay_and_take(self):
        self.check(
            Desk(), ("plane p 2", "ok"), ("lay p 1 1,0", "0"), ("lay p -1/2 0,1 3", "1"), ("take p 0", "ok"),
            ("lay p 0 -1/3,0 1/7", "2"), ("told p", "0,-1/2"), ("rests p", "0,0"), ("take p 2", "ok"),
            ("take p 1", "ok"), ("rests p", ""), ("lay p 1 1,1", "3"), ("mark p", "7"),
        )

    def test_the_weight_is_the_last_word_and_1_where_it_is_left_out(self):
        self.check(Desk(), ("plane p 1", "ok"), ("lay p 0 1 2", "0"), ("lay p 3 1", "1"), ("told p", "1"))
        self.check(Desk(), ("plane p 1", "ok"), ("lay p 0 1", "0"), ("lay p 3 1 1/2", "1"), ("told p", "1"))

    def test_widen_and_narrow(self):
        self.check(
            busy_desk(), ("widen p 1,0,-1/2", "ok"), ("free p", ""), ("rests p", "0,0,0"), ("narrow p", "ok"),
            ("narrow p", "ok"), ("told p", "9/10"), ("narrow p", "ok"), ("told p", ""), ("free p", ""), ("ways p", ""),
            ("rests p", "1,0,3"), ("pulls p", "0,0,0"), ("squares p", "5"), ("word p 2", "0"), ("widen p 1,1,1", "ok"),
            ("told p", "9/10"), ("mark p", "8"),
        )

    def test_back_and_mark(self):
        self.check(
            busy_desk(), ("mark p", "3"), ("told p", "11/15,1/3"), ("widen p 1,2,4", "ok"), ("take p 0", "ok"),
            ("mark p", "5"), ("back p 5", "ok"), ("mark p", "5"), ("back p 3", "ok"), ("mark p", "3"),
            ("told p", "11/15,1/3"), ("lay p 1 1,1", "3"), ("back p 1", "ok"), ("lay p 1 1,1", "1"),
            ("back p 0", "ok"), ("mark p", "0"), ("rests p", ""), ("lay p 1 1,1", "0"), ("mark h", "3"),
            ("mark e", "0"),
        )

    def test_what_the_plane_refuses(self):
        for line in ("lay p 1 1", "lay p 1 1,2,3", "lay p 1 1,2,3 1", "lay p 1 1,2 0", "lay p 1 1,2 -1", "lay e 1 1"):
            self.check_refused(NoPoint, line)
        for line in ("take p 3", "take p 999999", "take e 0", "word p 3", "word p 999999", "word e 0"):
            self.check_refused(NoPoint, line)
        for line in ("widen p 1", "widen p 1,2", "widen p 1,2,3,4", "widen e 1", "widen e 1,2"):
            self.check_refused(NoColumn, line)
        for line in ("back p 4", "back p 999999", "back e 1"):
            self.check_refused(NoMark, line)

    def test_numbers_of_points_taken_away_are_refused(self):
        desk = busy_desk()
        desk.say("take p 1")
        for line in ("take p 1", "word p 1"):
            self.check_refused(NoPoint, line, desk)
        self.check(desk, ("word p 2", "open"), ("take p 2", "ok"))

    def test_no_columns_and_a_thirteenth_one(self):
        desk = Desk()
        for line in ("plane p 1", "lay p 4 2", "narrow p"):
            desk.say(line)
        self.check_refused(NoColumn, "narrow p", desk)
        self.check_refused(NoPoint, "lay p 1 1", desk)
        self.check_refused(NoText, "value p 1", desk)
        self.check_refused(NoColumn, "floor p 0", desk)
        for _ in range(12):
            self.check(desk, ("widen p 1/3", "ok"))
        self.check_refused(NoColumn, "widen p 1", desk)
        self.check(desk, ("told p", "12" + ",0" * 11))


class Told(OfDesks):
    def test_rows_and_ratios(self):
        fit = Fit(points_of(*LAID), 2)
        self.check(
            busy_desk(), ("told p", shown_row(fit.told())), ("rests p", shown_row(fit.rests())),
            ("pulls p", shown_row(fit.pulls())), ("squares p", shown(fit.squares())), ("free p", ""), ("ways p", ""),
            ("told p", "11/15,1/3"), ("rests p", "4/15,-16/15,8/5"), ("squares p", "32/15"),
            ("pulls p", "14/15,7/15,3/5"),
        )

    def test_free_columns_and_ways(self):
        self.check(
            busy_desk(), ("free h", "1"), ("ways h", "-2,1,0"), ("told h", "4,0,1"), ("rests h", "-3,1,0"),
            ("take h 2", "ok"), ("free h", "1,2"), ("ways h", "-2,1,0 0,0,1"),
        )

    def test_without_points(self):
        self.check(
            busy_desk(), ("told e", "0,0"), ("rests e", ""), ("pulls e", ""), ("squares e", "0"), ("free e", "0,1"),
            ("ways e", "1,0 0,1"), ("value e 0,0", "0"), ("value e 0,1", "open"), ("mark e", "0"),
        )

    def test_twelve_free_columns_in_figures(self):
        desk = Desk()
        desk.say("plane p 12")
        self.check(desk, ("free p", "0,1,2,3,4,5,6,7,8,9,10,11"))

    def test_value(self):
        self.check(
            busy_desk(), ("value p 1,0", "11/15"), ("value p 0,0", "0"), ("value p -1/7,15", "514/105"),
            ("value h 1,2,0", "4"), ("value h 1,2,5", "9"), ("value h 1,0,0", "open"), ("value h 0,1/2,1", "open"),
        )
        for line in ("value p 1", "value p 1,2,3", "value h 1,2", "value e 1", "value e 0,0,0"):
            self.check_refused(NoText, line)

    def test_word(self):
        self.check(
            busy_desk(), ("word p 0", "-3"), ("word p 1", "2"), ("word p 2", "-1"),
            ("word h 0", "5"), ("word h 1", "1"), ("word h 2", "open"),
        )
        desk = busy_desk()
        desk.say("lay p 2 1,1")
        desk.say("take p 0")
        self.check(desk, ("word p 1", "2"), ("word p 2", "open"), ("word p 3", "0"))

    def test_floor(self):
        told = floor(Fit(points_of("1,0 2 3", "0,1 -1 1/2", "1,1 1 2"), 2), [1])
        desk = busy_desk()
        for line in ("plane f 2", "lay f 2 1,0 3", "lay f -1 0,1 1/2", "lay f 1 1,1 2"):
            desk.say(line)
        self.check(
            desk, ("floor f 1", " ".join([shown_row(told[0]), shown_row(told[1]), shown(told[2])])),
            ("floor f 1", "8/5,0 0,17/10 17/10"), ("floor f 0,1", "8/5,0 0,17/10 17/10"), ("floor f 0", "2,-1 0,0 0"),
            ("floor p 0,1", "11/15,1/3 0,0 32/15"),
        )

    def test_what_the_floor_refuses(self):
        for word in ("2", "-1", "0,0", "1,0", "0,1,2", "0,1,1", "9" * 60, "-" + "9" * 60):
            self.check_refused(NoColumn, f"floor p {word}")
        for word in ("1/2", "0,1/2", "1/2,0", "-1/3", "7,1/2"):
            self.check_refused(NoText, f"floor p {word}")
        for line in ("floor h 0", "floor h 0,1,2", "floor e 1"):
            self.check_refused(NotSure, line)
        for line in ("floor h 3", "floor h 1,0", "floor e 2", "floor e -1"):
            self.check_refused(NoColumn, line)

    def test_the_same_again(self):
        desk = busy_desk()
        self.assertEqual(seen(desk), seen(desk))


class NoLines(OfDesks):
    def test_each_line_is_one(self):
        for line in LINES:
            self.assertIs(type(busy_desk().say(line)), str, line)

    def test_what_is_no_text(self):
        for line in kinds_of_anything() + [0, 1, [], ["names"], ("names",), b"names", Touchy()]:
            self.check_refused(NoLine, line)

    def test_another_number_of_words(self):
        forms = {(line.split(" ")[0], len(line.split(" "))) for line in LINES}
        for first in {form[0] for form in forms}:
            for many in range(1, 8):
                if (first, many) not in forms:
                    self.check_refused(NoLine, " ".join([first] + ["p"] * (many - 1)))
                    self.check_refused(NoLine, " ".join([first] + [""] * (many - 1)))

    def test_other_first_words(self):
        for first in ("", "Plane", "NAMES", "plan", "planes", "name", "points", "width", "sums", "fit", "sure", "gap",
                      "gain", "off", "open", "ok", "p", "names\n", "\tnames", "names,", "help", "quit"):
            for more in ("", " p", " p 1", " p 1 1,2", " p 1 1,2 1"):
                self.check_refused(NoLine, first + more)

    def test_blanks_make_words_without_signs(self):
        for line in ("", " ", "  ", " names", "names ", " told p", "told p ", "told  p ", " mark p", "plane p  2",
                     "lay p 1 1,2  3", "take  p 0", "floor p 0 ", "end p "):
            self.check_refused(NoLine, line)
        self.check_refused(NoName, "end ")
        self.check_refused(NoName, "take  0")
        self.check_refused(NoName, "plane  3")
        self.check_refused(NoText, "plane p ")
        self.check_refused(NoText, "take p ")
        self.check_refused(NoText, "widen p ")
        self.check_refused(NoText, "value p ")
        self.check_refused(NoText, "floor p ")
        self.check_refused(NoText, "lay p  1,2")
        self.check_refused(NoText, "lay p 1 ")
        self.check_refused(NoText, "lay p 1 1,2 ")
        self.check_refused(NoText, "lay p 1  1,2")


class Words(OfDesks):
    def lines_by_place(self, place, words):
        """The lines with another word at a place, the right ones elsewhere."""
        for line in LINES:
            parts = line.split(" ")
            if place < len(parts):
                for word in words:
                    yield parts[0], " ".join(parts[:place] + [word] + parts[place + 1:])

    def test_names(self):
        for first, line in self.lines_by_place(1, NO_NAMES):
            self.check_refused(NoName, line)
        for first, line in self.lines_by_place(1, ["q", "gone", "pp", "abcdefgh"]):
            if first == "plane":
                self.assertEqual(busy_desk().say(line), "ok")
            else:
                self.check_refused(NoName, line)

    def test_numbers(self):
        for word in NO_NUMBERS:
            for first in ("take", "back", "word"):
                self.check_refused(NoText, f"{first} p {word}")

    def test_ratios(self):
        for word in NO_RATIOS:
            self.check_refused(NoText, f"lay p {word} 1,2")
            self.check_refused(NoText, f"lay p {word} 1,2 1")
            self.check_refused(NoText, f"lay p 1 1,2 {word}")

    def test_rows(self):
        for word in NO_ROWS:
            for line in ("lay p 1 {}", "lay p 1 {} 1", "widen p {}", "value p {}", "floor p {}", "widen e {}"):
                self.check_refused(NoText, line.format(word))

    def test_words_from_the_left_and_the_deed_last(self):
        # The name stands ahead of all other words.
        for line in ("plane P 0", "plane P x", "take q x", "lay q x y z", "lay 1 x y", "widen q ", "value q x",
                     "floor q x", "back q -1", "word q x"):
            self.check_refused(NoName, line)
        # What is no ratio anywhere stands ahead of a row of another length and of a weight that is none.
        for line in ("lay p x 1", "lay p 1 1 x", "lay p 1 1,2,3 x", "lay p x 1,2 0", "lay p 1 x 0", "value h 1,x",
                     "floor h 1/2", "floor p 2,1/2", "floor p 1/2,9", "widen e x"):
            self.check_refused(NoText, line)
        # Another number of words stands ahead of everything.
        for line in ("lay Q x", "take Q", "names Q", "told Q x", "floor p 1/2 x"):
            self.check_refused(NoLine, line)

    def test_long_numbers_are_read(self):
        large = "9" * 60
        self.check(
            Desk(), ("plane p 1", "ok"), (f"lay p {large} 1/{large}", "0"), ("squares p", "0"),
            ("told p", str(int(large) ** 2)), (f"value p -1/{large}", f"-{large}"),
        )


if __name__ == "__main__":
    unittest.main()
