"""The interface: each function and class is defined under its name, with its arguments, in its own file."""

import inspect
import unittest
from importlib import import_module

FUNCTIONS = {
    "pagewright.base.lengths": {
        "is_length": "(value)", "length_of": "(text)", "text_of_length": "(length)", "scaled": "(length, times, by)",
    },
    "pagewright.text.sorts": {
        "is_sign": "(value)", "is_text": "(value)", "is_sort": "(value)", "is_token": "(value)",
    },
    "pagewright.text.reader": {"tokens_of": "(text, sorts=None)", "placed_tokens": "(text, sorts=None)"},
    "pagewright.text.rows": {
        "is_row": "(value)", "is_balanced": "(row)", "depths": "(row)", "partner": "(row, index)",
        "first_unreadable": "(row, sorts=None)", "is_readable": "(row, sorts=None)", "text_of": "(row, sorts=None)",
    },
    "pagewright.macro.macros": {
        "macro_of": "(parameters, body, *, is_long=False)", "rows_of": "(macro)", "match_macro": "(macro, row, start)",
        "put_back": "(macro, match)", "filled": "(macro, arguments)",
    },
    "pagewright.macro.expander": {"standard_meanings": "()"},
    "pagewright.font.fonts": {
        "set_word": "(font, word)", "settled": "(font, left, right)", "letters_of": "(pieces)", "width_of": "(font, pieces)",
        "endless_word": "(font)", "ending_paper": "(font)", "is_ending_paper": "(font, value)",
    },
    "pagewright.font.hyphens": {
        "is_pattern": "(value)", "signs_of": "(pattern)", "numbers_of": "(pattern)", "pattern_text": "(signs, numbers)",
        "are_alike": "(one, other, letters)", "least_unlike": "(one, other, letters)",
        "idle_patterns": "(patterns, letters)",
    },
    "pagewright.box.items": {
        "is_item": "(value)", "are_row_items": "(value)", "are_column_items": "(value)", "width_of": "(item)",
        "height_of": "(item)", "depth_of": "(item)", "letters_of": "(items)",
    },
}
CONSTANTS = {
    "pagewright.base.lengths": {"POINT": 65536, "MAX_LENGTH": 2 ** 30 - 1},
    "pagewright.base.glue": {"ORDERS": ("pt", "fil", "fill", "filll")},
    "pagewright.text.sorts": {
        "SORTS": ("escape", "open", "close", "end", "slot", "ignored", "blank", "letter", "other", "active", "comment"),
        "MAX_SIGNS": 20000,
    },
    "pagewright.text.rows": {"MAX_ROW": 5000},
    "pagewright.macro.macros": {"MAX_SLOTS": 9},
    "pagewright.macro.scopes": {
        "KINDS": ("meaning", "number", "length", "glue", "row", "sort"), "MAX_REGISTER": 255, "MAX_LEVEL": 100,
        "MAX_BEHIND": 100,
    },
    "pagewright.macro.expander": {
        "WAITS": "waits",
        "COMMANDS": ("after", "keep", "name", "show", "digits", "value", "iftrue", "iffalse", "ifnumber", "iflength",
                     "ifodd", "ifsame", "ifsign", "ifcase", "else", "or", "fi"),
    },
    "pagewright.font.fonts": {"MAX_SIGNS": 128, "MAX_WORD": 60, "MAX_STEPS": 10000},
    "pagewright.font.hyphens": {"MAX_PATTERNS": 100, "MAX_PATTERN_SIGNS": 8, "MAX_EXCEPTIONS": 50, "MAX_LETTERS": 60},
    "pagewright.box.items": {"MAX_PENALTY": 10000, "MAX_ITEMS": 2000},
}
# For each class: the methods with their arguments, the class methods, the properties, and what works by signs.
CLASSES = {
    ("pagewright.base.glue", "Glue"): (
        {"__init__": "(self, natural, *, stretch=0, stretch_order=0, shrink=0, shrink_order=0)"}, {"of_text": "(text)"},
        "natural stretch stretch_order shrink shrink_order text", "__add__ __mul__ __eq__ __str__",
    ),
    ("pagewright.text.sorts", "Sorts"): (
        {"__init__": "(self, changes=None)", "with_sort": "(self, sign, sort)", "signs_of": "(self, sort)"}, {},
        "changes", "__getitem__ __eq__ __str__",
    ),
    ("pagewright.text.reader", "Reader"): (
        {"__init__": "(self, sorts=None)", "feed": "(self, piece)", "finish": "(self)", "take": "(self)",
         "change": "(self, sign, sort)", "twin": "(self)"}, {},
        "sorts state line is_finished is_at_rest", "__eq__ __str__",
    ),
    ("pagewright.macro.macros", "Macro"): (
        {"__init__": "(self, slots, body, *, is_long=False)"}, {}, "slots body is_long head delimiters",
        "__len__ __iter__ __eq__ __str__",
    ),
    ("pagewright.macro.macros", "Match"): ({"__init__": "(self, arguments, seams, stop)"}, {}, "", "__eq__"),
    ("pagewright.macro.scopes", "Scope"): (
        {"__init__": "(self, *, meanings=None)", "value_of": "(self, kind, key)",
         "assign": "(self, kind, key, value, *, everywhere=False)", "enter": "(self, word='group')", "leave": "(self)",
         "put_behind": "(self, token)", "twin": "(self)", "restore": "(self, state)"}, {},
        "level words sorts state", "__eq__ __str__",
    ),
    ("pagewright.macro.expander", "Expander"): (
        {"__init__": "(self, scope, source=None, *, limit=1000)", "push": "(self, row)", "ask": "(self)", "take": "(self)",
         "number": "(self)", "length": "(self)", "glue": "(self)", "whole": "(self, row)"}, {},
        "steps many_open line", "",
    ),
    ("pagewright.font.fonts", "Font"): (
        {"__init__": "(self, name, signs, program)", "measures": "(self, sign)"}, {}, "name signs program letters",
        "__contains__ __len__ __iter__ __eq__ __str__",
    ),
    ("pagewright.font.hyphens", "Patterns"): (
        {"__init__": "(self, patterns, *, exceptions=(), front=2, end=2)", "numbers": "(self, word)",
         "points": "(self, word)", "parted": "(self, word)", "without": "(self, index)",
         "with_limits": "(self, front, end)"}, {},
        "patterns exceptions front end longest", "__contains__ __len__ __iter__ __eq__ __str__",
    ),
}


class Interface(unittest.TestCase):
    def test_functions(self):
        for module, functions in FUNCTIONS.items():
            for name, signature in functions.items():
                with self.subTest(name):
                    function = getattr(import_module(module), name)
                    self.assertTrue(inspect.isfunction(function))
                    self.assertEqual(function.__module__, module)
                    self.assertEqual(str(inspect.signature(function)), signature)

    def test_constants(self):
        for module, constants in CONSTANTS.items():
            for name, value in constants.items():
                self.assertEqual(getattr(import_module(module), name), value)

    def test_classes(self):
        for (module, name), (methods, class_methods, properties, signs) in CLASSES.items():
            found = getattr(import_module(module), name)
            own = vars(found)
            with self.subTest(name):
                self.assertEqual((found.__module__, found.__name__), (module, name))
                for method, told in methods.items():
                    self.assertEqual(str(inspect.signature(own[method])), told)
                for method, told in class_methods.items():
                    self.assertIsInstance(own[method], classmethod)
                    self.assertEqual(str(inspect.signature(getattr(found, method))), told)
                for word in properties.split():
                    self.assertIsInstance(own[word], property)
                self.assertLessEqual(set(signs.split()), set(own))


if __name__ == "__main__":
    unittest.main()
