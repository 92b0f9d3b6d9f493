"""Points 3 and 4, and the heading raisedwreck/errors.py."""

import inspect
import unittest

from raisedwreck import errors

NAMES = ["InvalidMachine", "InvalidDisk", "InvalidSketch", "NoSuchDeed", "TooManyDisks", "NotContradictory",
         "InvalidForm", "InvalidFile", "NoRoom", "NoSuchFile", "PaperSyntaxError", "CannotDo",
         "MachineSyntaxError", "CaseSyntaxError"]


class ErrorClasses(unittest.TestCase):
    def test_the_base_class_stands_directly_below_value_error(self):
        self.assertEqual(errors.WreckError.__bases__, (ValueError,))

    def test_each_error_stands_directly_below_the_base_class(self):
        for name in NAMES:
            with self.subTest(name):
                self.assertEqual(getattr(errors, name).__bases__, (errors.WreckError,))
                self.assertEqual(getattr(errors, name).__module__, "raisedwreck.errors")

    def test_there_is_no_other_error(self):
        found = [name for name, value in vars(errors).items() if inspect.isclass(value)]
        self.assertEqual(sorted(found), sorted(NAMES + ["WreckError"]))

    def test_errors_without_attributes_take_a_message(self):
        for name in NAMES[:11]:
            with self.subTest(name):
                self.assertEqual(str(getattr(errors, name)("words")), "words")

    def test_the_attributes(self):
        self.assertEqual(errors.CannotDo(7).position, 7)
        self.assertEqual(errors.MachineSyntaxError(0).line, 0)
        self.assertEqual(errors.CaseSyntaxError(12).line, 12)
        self.assertIn("7", str(errors.CannotDo(7)))


if __name__ == "__main__":
    unittest.main()
