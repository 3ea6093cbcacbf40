"""The error classes of the interface."""

import unittest

from oddbases import errors

NAMES = (
    "NoWay", "NoNumber", "NoWriting", "TooLess", "NoRatio", "NoFalling",
    "NoPairs", "Nought", "NoSpan", "NoTotal", "NoText", "NoRow",
)


class ErrorClasses(unittest.TestCase):
    def test_odd_error_stands_straight_under_value_error(self):
        self.assertEqual(errors.OddError.__bases__, (ValueError,))

    def test_each_stands_straight_under_odd_error(self):
        for name in NAMES:
            with self.subTest(name=name):
                self.assertEqual(getattr(errors, name).__bases__, (errors.OddError,))
                self.assertEqual(getattr(errors, name).__name__, name)

    def test_none_stands_under_another(self):
        for name in NAMES:
            for other in NAMES:
                if name != other:
                    with self.subTest(name=name, other=other):
                        self.assertFalse(issubclass(getattr(errors, name), getattr(errors, other)))

    def test_each_is_caught_by_its_own_name_and_as_a_value_error(self):
        for name in NAMES:
            for caught in (getattr(errors, name), errors.OddError, ValueError):
                with self.subTest(name=name, caught=caught), self.assertRaises(caught):
                    raise getattr(errors, name)("refused")


if __name__ == "__main__":
    unittest.main()
