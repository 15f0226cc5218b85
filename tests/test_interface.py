"""The interface: each function and class is defined under its name, with its arguments, in its own file."""

import inspect
import unittest
from importlib import import_module

FUNCTIONS = {
    "pagewright.base.lengths": {
        "is_length": "(value)", "length_of": "(text)", "text_of_length": "(length)", "scaled": "(length, times, by)",
    },
    "pagewright.text.sorts": {
        "is_sign": "(value)", "is_text": "(value)", "is_sort": "(value)", "is_token": "(value)",
    },
    "pagewright.text.reader": {"tokens_of": "(text, sorts=None)", "placed_tokens": "(text, sorts=None)"},
    "pagewright.text.rows": {
        "is_row": "(value)", "is_balanced": "(row)", "depths": "(row)", "partner": "(row, index)",
        "first_unreadable": "(row, sorts=None)", "is_readable": "(row, sorts=None)", "text_of": "(row, sorts=None)",
    },
    "pagewright.macro.macros": {
        "macro_of": "(parameters, body, *, is_long=False)", "rows_of": "(macro)", "match_macro": "(macro, row, start)",
        "put_back": "(macro, match)", "filled": "(macro, arguments)",
    },
    "pagewright.macro.expander": {"standard_meanings": "()"},
    "pagewright.font.fonts": {
        "set_word": "(font, word)", "settled": "(font, left, right)", "letters_of": "(pieces)", "width_of": "(font, pieces)",
        "endless_word": "(font)", "ending_paper": "(font)", "is_ending_paper": "(font, value)",
    },
    "pagewright.font.hyphens": {
        "is_pattern": "(value)", "signs_of": "(pattern)", "numbers_of": "(pattern)", "pattern_text": "(signs, numbers)",
        "are_alike": "(one, other, letters)", "least_unlike": "(one, other, letters)",
        "idle_patterns": "(patterns, letters)",
    },
    "pagewright.box.items": {
        "is_item": "(value)", "are_row_items": "(value)", "are_column_items": "(value)", "width_of": "(item)",
        "height_of": "(item)", "depth_of": "(item)", "letters_of": "(items)",
    },
    "pagewright.box.packing": {
        "badness": "(wanted, room)", "row_box": "(items, *, to=None, spread=None)",
        "column_box": "(items, *, to=None, spread=None, depth_limit=None)",
    },
    "pagewright.line.breaks": {
        "is_measured": "(value)", "places_of": "(row, rules)", "next_places": "(row, rules, place)", "is_way": "(row, rules, value)",
        "cost_of": "(row, rules, way)", "least_breaks": "(row, rules, *, wrong=False)", "breaks_paper": "(row, rules, *, wrong=False)",
        "is_breaks_paper": "(row, rules, value, *, wrong=False)", "no_way_paper": "(row, rules)", "is_no_way_paper": "(row, rules, value)",
    },
    "pagewright.line.paragraphs": {
        "word_items": "(style, word)", "text_items": "(style, text)", "with_hyphens": "(style, items)", "whole_items": "(style, items)",
        "measured": "(items)", "is_paper_of": "(broken, value)", "paragraph": "(style, items, *, depth=None)",
        "text_paragraph": "(style, text, *, depth=None)",
    },
    "pagewright.page.builder": {
        "places_of": "(items)", "page_of": "(items, style, start, stop, begin, end, *, top_mark='')",
        "filled": "(items, style, start, stop, begin)",
    },
    "pagewright.page.best": {
        "best_way": "(items, style)", "is_way": "(items, style, value)", "way_cost": "(items, style, way)", "pages_of": "(items, style, way)",
        "built_way": "(items, style)", "paper_for": "(items, style)", "is_paper": "(items, style, value)",
        "does_show": "(items, style, paper, way)", "least_pages": "(items, style)",
    },
    "pagewright.press.press": {"set_text": "(text, styles, name, page, *, limit=1000)"},
    "pagewright.press.edits": {"first_difference": "(one, other)"},
}
CONSTANTS = {
    "pagewright.base.lengths": {"POINT": 65536, "MAX_LENGTH": 2 ** 30 - 1},
    "pagewright.base.glue": {"ORDERS": ("pt", "fil", "fill", "filll")},
    "pagewright.text.sorts": {
        "SORTS": ("escape", "open", "close", "end", "slot", "ignored", "blank", "letter", "other", "active", "comment"),
        "MAX_SIGNS": 20000,
    },
    "pagewright.text.rows": {"MAX_ROW": 5000},
    "pagewright.macro.macros": {"MAX_SLOTS": 9},
    "pagewright.macro.scopes": {
        "KINDS": ("meaning", "number", "length", "glue", "row", "sort"), "MAX_REGISTER": 255, "MAX_LEVEL": 100,
        "MAX_BEHIND": 100,
    },
    "pagewright.macro.expander": {
        "WAITS": "waits",
        "COMMANDS": ("after", "keep", "name", "show", "digits", "value", "iftrue", "iffalse", "ifnumber", "iflength",
                     "ifodd", "ifsame", "ifsign", "ifcase", "else", "or", "fi"),
    },
    "pagewright.font.fonts": {"MAX_SIGNS": 128, "MAX_WORD": 60, "MAX_STEPS": 10000},
    "pagewright.font.hyphens": {"MAX_PATTERNS": 100, "MAX_PATTERN_SIGNS": 8, "MAX_EXCEPTIONS": 50, "MAX_LETTERS": 60},
    "pagewright.box.items": {"MAX_PENALTY": 10000, "MAX_ITEMS": 2000},
    "pagewright.line.breaks": {"MAX_ITEMS": 1000, "NEVER": 10000, "FORCED": -10000, "MAX_NODES": 20000},
    "pagewright.page.builder": {"FORCED": -10000, "BARRED": 10000, "MAX_HELD": 1500},
    "pagewright.press.press": {
        "DEEDS": ("everywhere", "number", "length", "glue", "row", "add", "define", "longdefine", "fulldefine", "let", "change",
                  "style", "behind", "kern", "skip", "penalty", "rule", "mark", "part", "indent", "noindent", "par", "rowbox",
                  "columnbox", "note", "shift", "pagebox"),
        "MAX_PAGES": 1000, "MAX_OPEN": 50,
    },
    "pagewright.press.edits": {"MAX_LINES": 400, "MAX_COLUMNS": 200},
}
# For each class: the methods with their arguments, the class methods, the properties, and what works by signs.
CLASSES = {
    ("pagewright.base.glue", "Glue"): (
        {"__init__": "(self, natural, *, stretch=0, stretch_order=0, shrink=0, shrink_order=0)"}, {"of_text": "(text)"},
        "natural stretch stretch_order shrink shrink_order text", "__add__ __mul__ __eq__ __str__",
    ),
    ("pagewright.text.sorts", "Sorts"): (
        {"__init__": "(self, changes=None)", "with_sort": "(self, sign, sort)", "signs_of": "(self, sort)"}, {},
        "changes", "__getitem__ __eq__ __str__",
    ),
    ("pagewright.text.reader", "Reader"): (
        {"__init__": "(self, sorts=None)", "feed": "(self, piece)", "finish": "(self)", "take": "(self)",
         "change": "(self, sign, sort)", "twin": "(self)"}, {},
        "sorts state line is_finished is_at_rest", "__eq__ __str__",
    ),
    ("pagewright.macro.macros", "Macro"): (
        {"__init__": "(self, slots, body, *, is_long=False)"}, {}, "slots body is_long head delimiters",
        "__len__ __iter__ __eq__ __str__",
    ),
    ("pagewright.macro.macros", "Match"): ({"__init__": "(self, arguments, seams, stop)"}, {}, "", "__eq__"),
    ("pagewright.macro.scopes", "Scope"): (
        {"__init__": "(self, *, meanings=None)", "value_of": "(self, kind, key)",
         "assign": "(self, kind, key, value, *, everywhere=False)", "enter": "(self, word='group')", "leave": "(self)",
         "put_behind": "(self, token)", "twin": "(self)", "restore": "(self, state)"}, {},
        "level words sorts state", "__eq__ __str__",
    ),
    ("pagewright.macro.expander", "Expander"): (
        {"__init__": "(self, scope, source=None, *, limit=1000)", "push": "(self, row)", "ask": "(self)", "take": "(self)",
         "number": "(self)", "length": "(self)", "glue": "(self)", "whole": "(self, row)"}, {},
        "steps many_open line", "",
    ),
    ("pagewright.font.fonts", "Font"): (
        {"__init__": "(self, name, signs, program)", "measures": "(self, sign)"}, {}, "name signs program letters",
        "__contains__ __len__ __iter__ __eq__ __str__",
    ),
    ("pagewright.font.hyphens", "Patterns"): (
        {"__init__": "(self, patterns, *, exceptions=(), front=2, end=2)", "numbers": "(self, word)",
         "points": "(self, word)", "parted": "(self, word)", "without": "(self, index)",
         "with_limits": "(self, front, end)"}, {},
        "patterns exceptions front end longest", "__contains__ __len__ __iter__ __eq__ __str__",
    ),
    ("pagewright.box.packing", "Box"): (
        {"size_at": "(self, index)", "walk": "(self)"}, {},
        "kind width height depth content places natural excess order ugliness", "__contains__ __len__ __iter__ __eq__ __str__",
    ),
    ("pagewright.line.breaks", "Rules"): (
        {"__init__": "(self, widths, *, tolerance=200, line=10, hyphen=50, unlike=10000, double=10000, last=5000, room=0, looseness=0)",
         "changed": "(self, **others)"}, {},
        "widths tolerance line hyphen unlike double last room looseness", "__eq__",
    ),
    ("pagewright.line.breaks", "Line"): (
        {"__init__": "(self, row, rules, place, end, number)", "demerits": "(self, tightness, is_part)"}, {},
        "start natural width rest stretches shrink badness_told tightness too_full is_wrong", "",
    ),
    ("pagewright.line.styles", "Style"): (
        {"__init__": "(self, font, widths, space, *, patterns=None, stops=None, shifts=(0,), first=100, tolerance=200, room=0, line=10, "
                     "hyphen=50, unlike=10000, double=10000, last=5000, looseness=0, indent=0, fill=None, skip=None, near_gap=None, "
                     "least_gap=0, between=0, behind_first=150, ahead_last=150, behind_part=100)",
         "changed": "(self, **others)"}, {},
        "font widths space patterns stops shifts first tolerance room line hyphen unlike double last looseness indent fill skip near_gap "
        "least_gap between behind_first ahead_last behind_part", "__eq__",
    ),
    ("pagewright.line.paragraphs", "Broken"): (
        {"__init__": "(self, style, items)", "papers": "(self)"}, {},
        "style pass_number content rules way cost lines loose boxes", "__len__ __eq__",
    ),
    ("pagewright.page.builder", "PageStyle"): (
        {"__init__": "(self, height, *, top=0, skip=None, notes=None, waiting=0)"}, {}, "height top skip notes waiting", "__eq__",
    ),
    ("pagewright.page.builder", "Page"): (
        {"moved": "(self, items, notes)"}, {}, "start stop begin end cost box marks", "__eq__ __str__",
    ),
    ("pagewright.page.builder", "Builder"): (
        {"__init__": "(self, style)", "put": "(self, item)", "finish": "(self)", "twin": "(self)"}, {},
        "style held start cut waiting top_mark best rest is_finished", "",
    ),
    ("pagewright.press.press", "Press"): (
        {"__init__": "(self, styles, name, page, *, limit=1000)", "feed": "(self, piece)", "finish": "(self)", "value_of": "(self, kind, key)"}, {},
        "pages log modes level line is_stopped is_finished", "__contains__ __len__ __iter__ __str__",
    ),
    ("pagewright.press.edits", "Document"): (
        {"__init__": "(self, lines, styles, name, page, *, limit=1000)", "edit": "(self, line, gone, come)", "state_ahead": "(self, place)",
         "pages_ahead": "(self, place)", "twin": "(self)"}, {},
        "lines text pages log rests work", "__contains__ __len__ __iter__ __eq__ __str__",
    ),
}


class Interface(unittest.TestCase):
    def test_functions(self):
        for module, functions in FUNCTIONS.items():
            for name, signature in functions.items():
                with self.subTest(name):
                    function = getattr(import_module(module), name)
                    self.assertTrue(inspect.isfunction(function))
                    self.assertEqual(function.__module__, module)
                    self.assertEqual(str(inspect.signature(function)), signature)

    def test_constants(self):
        for module, constants in CONSTANTS.items():
            for name, value in constants.items():
                self.assertEqual(getattr(import_module(module), name), value)

    def test_what_is_iterated_over(self):
        for (module, name), (_, _, _, signs) in CLASSES.items():
            if "__iter__" not in signs and "__getitem__" not in signs:
                with self.subTest(name):
                    found = getattr(import_module(module), name)
                    self.assertFalse(hasattr(found, "__iter__") or hasattr(found, "__getitem__"))

    def test_classes(self):
        for (module, name), (methods, class_methods, properties, signs) in CLASSES.items():
            found = getattr(import_module(module), name)
            own = vars(found)
            with self.subTest(name):
                self.assertEqual((found.__module__, found.__name__), (module, name))
                for method, told in methods.items():
                    self.assertEqual(str(inspect.signature(own[method])), told)
                for method, told in class_methods.items():
                    self.assertIsInstance(own[method], classmethod)
                    self.assertEqual(str(inspect.signature(getattr(found, method))), told)
                for word in properties.split():
                    self.assertIsInstance(own[word], property)
                self.assertLessEqual(set(signs.split()), set(own))


if __name__ == "__main__":
    unittest.main()
