"""The classes of errors that the interface lists."""

import unittest

from arrowties import errors

NAMES = ("NoPoints", "NoPoint", "NoTie", "TwiceTold", "NoArrow", "Round", "Clash")


class Errors(unittest.TestCase):
    def test_tie_error_is_a_value_error(self):
        self.assertEqual(errors.TieError.__bases__, (ValueError,))

    def test_each_class_is_there_and_stands_right_below_tie_error(self):
        for name in NAMES:
            with self.subTest(name=name):
                self.assertEqual(getattr(errors, name).__bases__, (errors.TieError,))

    def test_each_class_is_caught_by_both_common_classes(self):
        for name in NAMES:
            for common in (errors.TieError, ValueError):
                with self.subTest(name=name, common=common.__name__):
                    with self.assertRaises(common):
                        raise getattr(errors, name)("refused")


if __name__ == "__main__":
    unittest.main()
