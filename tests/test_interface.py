"""The interface: names, arguments and defaults as they stand."""

import inspect
import unittest

from nearplane import deeds, equations, floors, ratios, rows, tables, texts, upright
from nearplane.desk import Desk
from nearplane.fits import Fit
from nearplane.planes import Plane

SIGNATURES = [
    (ratios, {
        "is_whole": "(thing)", "is_ratio": "(thing)", "ratio": "(top, bottom)",
        "plus": "(one, other)", "minus": "(one, other)", "times": "(one, other)",
        "over": "(one, other)", "less": "(one, other)",
    }),
    (texts, {
        "shown": "(one)", "read": "(text)", "shown_row": "(row)", "read_row": "(text)",
    }),
    (rows, {
        "is_row": "(thing, long)", "added": "(one, other)", "taken": "(one, other)",
        "scaled": "(row, by)", "dot": "(one, other, weights=None)",
        "mixed": "(rows, shares, long)", "is_still": "(row)",
    }),
    (tables, {
        "turned": "(table, wide)", "product": "(one, other, wide)", "unit": "(many)",
    }),
    (deeds, {
        "done": "(table, deeds)", "led_back": "(deeds)",
    }),
    (equations, {
        "reduced": "(table, wide)", "measure": "(table)", "inverse": "(table)", "answer": "(table, wants, wide)",
    }),
    (upright, {
        "lefts": "(rows, weights)", "nearest": "(rows, row, weights)", "dots": "(rows, weights)",
        "square": "(row, weights)",
    }),
    (floors, {
        "floor": "(fit, marked)", "gap": "(fit, marked)",
    }),
]
METHODS = [
    (Fit, "nearplane.fits", "(points, wide)", {
        "told": "(self)", "free": "(self)", "rests": "(self)", "squares": "(self)", "ways": "(self)",
        "sure": "(self, row)", "value": "(self, row)", "pulls": "(self)", "word": "(self, k)",
        "gain": "(self, column)", "off": "(self, shares)",
    }),
    (Plane, "nearplane.planes", "(wide)", {
        "lay": "(self, row, want, weight=None)", "take": "(self, number)", "widen": "(self, column)",
        "narrow": "(self)", "points": "(self)", "width": "(self)", "fit": "(self)", "sums": "(self)",
        "told": "(self)", "free": "(self)", "ways": "(self)", "squares": "(self)", "mark": "(self)",
        "back": "(self, mark)",
    }),
    (Desk, "nearplane.desk", "()", {
        "say": "(self, line)",
    }),
]


class Interface(unittest.TestCase):
    def test_functions_take_what_is_told(self):
        for module, functions in SIGNATURES:
            for name, signature in functions.items():
                with self.subTest(name):
                    function = getattr(module, name)
                    self.assertEqual(str(inspect.signature(function)), signature)
                    self.assertEqual(function.__module__, module.__name__)

    def test_classes_and_their_methods_take_what_is_told(self):
        for made, source, signature, methods in METHODS:
            self.assertEqual(made.__module__, source)
            self.assertEqual(str(inspect.signature(made)), signature)
            for name, signature in methods.items():
                with self.subTest(name):
                    self.assertEqual(str(inspect.signature(getattr(made, name))), signature)

    def test_the_value_of_a_fit(self):
        self.assertEqual(Fit(points=[], wide=7).wide, 7)


if __name__ == "__main__":
    unittest.main()
