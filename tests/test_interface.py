"""The interface: names, arguments and defaults as they stand."""

import inspect
import unittest

from nearplane import deeds, equations, ratios, rows, tables, texts, upright

SIGNATURES = [
    (ratios, {
        "is_whole": "(thing)", "is_ratio": "(thing)", "ratio": "(top, bottom)",
        "plus": "(one, other)", "minus": "(one, other)", "times": "(one, other)",
        "over": "(one, other)", "less": "(one, other)",
    }),
    (texts, {
        "shown": "(one)", "read": "(text)", "shown_row": "(row)", "read_row": "(text)",
    }),
    (rows, {
        "is_row": "(thing, long)", "added": "(one, other)", "taken": "(one, other)",
        "scaled": "(row, by)", "dot": "(one, other, weights=None)",
        "mixed": "(rows, shares, long)", "is_still": "(row)",
    }),
    (tables, {
        "turned": "(table, wide)", "product": "(one, other, wide)", "unit": "(many)",
    }),
    (deeds, {
        "done": "(table, deeds)", "led_back": "(deeds)",
    }),
    (equations, {
        "reduced": "(table, wide)", "measure": "(table)", "inverse": "(table)", "answer": "(table, wants, wide)",
    }),
    (upright, {
        "lefts": "(rows, weights)", "nearest": "(rows, row, weights)", "dots": "(rows, weights)",
        "square": "(row, weights)",
    }),
]


class Interface(unittest.TestCase):
    def test_functions_take_what_is_told(self):
        for module, functions in SIGNATURES:
            for name, signature in functions.items():
                with self.subTest(name):
                    function = getattr(module, name)
                    self.assertEqual(str(inspect.signature(function)), signature)
                    self.assertEqual(function.__module__, module.__name__)


if __name__ == "__main__":
    unittest.main()
