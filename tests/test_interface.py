"""The interface: each function and class is defined under its name, with its arguments, in its own file."""

import inspect
import unittest
from importlib import import_module

FUNCTIONS = {
    "pagewright.base.lengths": {
        "is_length": "(value)", "length_of": "(text)", "text_of_length": "(length)", "scaled": "(length, times, by)",
    },
    "pagewright.text.sorts": {
        "is_sign": "(value)", "is_text": "(value)", "is_sort": "(value)", "is_token": "(value)",
    },
    "pagewright.text.rows": {
        "is_row": "(value)", "is_balanced": "(row)", "depths": "(row)", "partner": "(row, index)",
        "first_unreadable": "(row, sorts=None)", "is_readable": "(row, sorts=None)", "text_of": "(row, sorts=None)",
    },
}
CONSTANTS = {
    "pagewright.base.lengths": {"POINT": 65536, "MAX_LENGTH": 2 ** 30 - 1},
    "pagewright.text.sorts": {
        "SORTS": ("escape", "open", "close", "end", "slot", "ignored", "blank", "letter", "other", "active", "comment"),
        "MAX_SIGNS": 20000,
    },
    "pagewright.text.rows": {"MAX_ROW": 5000},
}
CLASSES = {"pagewright.text.sorts": {"Sorts": ("(self, changes=None)", {"with_sort": "(self, sign, sort)",
                                                                         "signs_of": "(self, sort)"})}}


class Interface(unittest.TestCase):
    def test_functions(self):
        for module, functions in FUNCTIONS.items():
            for name, signature in functions.items():
                with self.subTest(name):
                    function = getattr(import_module(module), name)
                    self.assertTrue(inspect.isfunction(function))
                    self.assertEqual(function.__module__, module)
                    self.assertEqual(str(inspect.signature(function)), signature)

    def test_constants(self):
        for module, constants in CONSTANTS.items():
            for name, value in constants.items():
                self.assertEqual(getattr(import_module(module), name), value)

    def test_classes(self):
        for module, classes in CLASSES.items():
            for name, (signature, methods) in classes.items():
                found = getattr(import_module(module), name)
                self.assertEqual(found.__module__, module)
                self.assertEqual(str(inspect.signature(found.__init__)), signature)
                for method, told in methods.items():
                    self.assertEqual(str(inspect.signature(vars(found)[method])), told)

    def test_methods_of_sorts_are_its_own(self):
        found = vars(getattr(import_module("pagewright.text.sorts"), "Sorts"))
        for name in ("__init__", "__getitem__", "__eq__", "__str__", "with_sort", "signs_of", "changes"):
            self.assertIn(name, found)
        self.assertIsInstance(found["changes"], property)


if __name__ == "__main__":
    unittest.main()
