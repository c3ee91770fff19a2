"""The interface's errors: ten refusals straight under PlaneError."""

import unittest

from nearplane import errors

NAMES = [
    "NoRatio", "NoText", "NoDeed", "NoInverse", "NoPoint",
    "NotSure", "NoColumn", "NoMark", "NoName", "NoLine",
]


class Errors(unittest.TestCase):
    def test_plane_error_stands_straight_under_value_error(self):
        self.assertEqual(errors.PlaneError.__bases__, (ValueError,))

    def test_each_refusal_stands_straight_under_plane_error(self):
        for name in NAMES:
            with self.subTest(name):
                refusal = getattr(errors, name)
                self.assertEqual(refusal.__name__, name)
                self.assertEqual(refusal.__bases__, (errors.PlaneError,))

    def test_no_refusal_is_another_one(self):
        self.assertEqual(len({getattr(errors, name) for name in NAMES}), len(NAMES))

    def test_each_is_raised_and_taken_as_value_error(self):
        for name in NAMES:
            with self.subTest(name), self.assertRaises(ValueError):
                raise getattr(errors, name)("words")


if __name__ == "__main__":
    unittest.main()
