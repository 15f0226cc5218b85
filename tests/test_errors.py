"""[0.16]: all error classes, what they are derived from, and what they keep."""

import unittest

from pagewright import errors

WITH_MESSAGE = (
    "InvalidLength", "InvalidGlue", "InvalidSort", "InvalidToken", "InvalidRow", "InvalidMacro", "Unfinished",
    "InvalidScope", "InvalidFont", "InvalidPatterns", "InvalidItem", "InvalidBox", "InvalidRules", "InvalidWay",
    "InvalidPaper", "InvalidPage", "InvalidDocument", "InvalidOperation",
)
KEEPING = (
    ("BadUse", errors.PressError, "number"), ("ParseError", errors.PressError, "number"),
    ("Fault", errors.PressError, "word"), ("UnknownName", KeyError, "asked"),
    ("InvalidNumber", IndexError, "value"), ("TooMany", OverflowError, "limit"),
)
ANY_VALUES = (None, True, 0, -3, 10 ** 99, "", "a text", (), (1, ("a",)), [1, [2]], {"a": [1]})


class Bases(unittest.TestCase):
    def test_press_error(self):
        self.assertEqual(errors.PressError.__bases__, (ValueError,))

    def test_errors_with_a_message_are_derived_directly(self):
        for name in WITH_MESSAGE:
            with self.subTest(name):
                self.assertEqual(getattr(errors, name).__bases__, (errors.PressError,))

    def test_errors_that_keep_something_are_derived_directly(self):
        for name, base, _ in KEEPING:
            with self.subTest(name):
                self.assertEqual(getattr(errors, name).__bases__, (base,))

    def test_errors_of_look_ups_and_limits_are_no_press_errors(self):
        for name in ("UnknownName", "InvalidNumber", "TooMany"):
            self.assertFalse(issubclass(getattr(errors, name), errors.PressError))

    def test_there_are_no_other_errors(self):
        found = [name for name, value in vars(errors).items() if isinstance(value, type)]
        told = ["PressError", *WITH_MESSAGE] + [name for name, _, _ in KEEPING]
        self.assertEqual(sorted(found), sorted(told))


class Kept(unittest.TestCase):
    def test_any_value_is_kept(self):
        for name, _, attribute in KEEPING:
            for value in ANY_VALUES:
                with self.subTest(name, value=value):
                    error = getattr(errors, name)(value)
                    self.assertEqual(vars(error), {attribute: value})
                    self.assertIs(getattr(error, attribute), value)

    def test_kept_values_are_there_when_caught(self):
        for name, base, attribute in KEEPING:
            with self.subTest(name):
                with self.assertRaises(base) as caught:
                    raise getattr(errors, name)("it")
                self.assertEqual(getattr(caught.exception, attribute), "it")

    def test_the_others_take_a_message(self):
        for name in ("PressError", *WITH_MESSAGE):
            with self.subTest(name):
                self.assertEqual(str(getattr(errors, name)("what is wrong")), "what is wrong")


if __name__ == "__main__":
    unittest.main()
