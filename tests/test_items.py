"""[9.1], [9.2] and all that stands below "Stage 9: items"."""

import unittest

from odd_values import ODD_VALUES
from pagewright.base.glue import Glue
from pagewright.box import items as module
from pagewright.box.frames import Frame
from pagewright.box.items import (are_column_items, are_row_items, depth_of, height_of, is_item, letters_of, width_of)
from pagewright.box.packing import Box
from pagewright.box.setting import Setting
from pagewright.errors import InvalidItem
from pagewright.font.fonts import Font, set_word
from pagewright.font.hyphens import Patterns

TEN = Font("ten", {"a": (10, 6, 0), "b": (12, 8, 2), "fi": (15, 7, 1), "-": (5, 3, 0)}, {})
OTHER = Font("other", {"z": (1, 1, 1)}, {})
LENGTH_END = 2 ** 30


def box_of(kind="row", sizes=(20, 9, 4), content=()):
    return Box(kind, sizes, content, 0, Setting((), 0), [], ())


def nested(many, as_note=False):
    """A box in which so many boxes stand in one another, itself counted."""
    box = box_of("column")
    for _ in range(many - 1):
        box = box_of("column", content=(("note", box),) if as_note else (("kern", 1), ("box", box, 0)))
    return box


A, B, JOIN = ("letter", TEN, "a"), ("letter", TEN, "b"), ("join", TEN, "fi", "fi")
HYPHEN = ("letter", TEN, "-")
PART = ("part", (HYPHEN,), (), (A, ("kern", -3), JOIN))
FINE = (
    A, B, JOIN, ("join", TEN, "a", ""), ("join", TEN, "fi", "ffi"), ("kern", 0), ("kern", -7), ("kern", LENGTH_END - 1), ("glue", Glue(3, stretch=1)),
    ("penalty", 0), ("penalty", 10000), ("penalty", -10000), ("rule", 1, 2, 3), ("rule", None, 2, 3), ("rule", 1, None, None), ("rule", -1, -2, -3),
    ("rule", None, None, None), ("box", box_of(), 0), ("box", box_of("column"), -5), PART, ("part", (), (), ()), ("part", (), (JOIN,), (("kern", 1),)),
    ("mark", ""), ("mark", "a b"), ("mark", "x" * 100), ("note", box_of("column")),
)
ALL_WRONG = {
    "letter": (("letter",), ("letter", TEN), ("letter", TEN, "a", "a"), ("letter", TEN, "c"), ("letter", TEN, "fi"), ("letter", TEN, None), ("letter", TEN, ["a"]), ("letter", "ten", "a"),
               ("letter", None, "a"), ("letter", OTHER, "a"), ["letter", TEN, "a"]),
    "join": (("join", TEN, "fi"), ("join", TEN, "fi", "fi", 1), ("join", TEN, "ff", "fi"), ("join", None, "fi", "fi"), ("join", TEN, "fi", None), ("join", TEN, "fi", ("f", "i")),
             ("join", TEN, None, "fi"), ("join", OTHER, "fi", "fi")),
    "kern": (("kern",), ("kern", None), ("kern", LENGTH_END), ("kern", True), ("kern", "1pt"), ("kern", 1, 2), ("kern", Glue(1))),
    "glue": (("glue",), ("glue", 3), ("glue", None), ("glue", "3pt"), ("glue", Glue(3), 1)),
    "penalty": (("penalty",), ("penalty", 10001), ("penalty", -10001), ("penalty", None), ("penalty", False), ("penalty", "0"), ("penalty", 0, 0)),
    "rule": (("rule",), ("rule", 1, 2), ("rule", 1, 2, 3, 4), ("rule", LENGTH_END, 2, 3), ("rule", 1, LENGTH_END, 3), ("rule", 1, 2, -LENGTH_END), ("rule", True, 2, 3),
             ("rule", 1, "2", 3), ("rule", 1, 2, ())),
    "box": (("box",), ("box", box_of()), ("box", box_of(), None), ("box", box_of(), LENGTH_END), ("box", box_of(), True), ("box", None, 0), ("box", (A,), 0), ("box", TEN, 0),
            ("box", box_of(), 0, 0), ("box", nested(100), 0), ("box", nested(100, True), 0)),
    "part": (("part", (), ()), ("part", (), (), (), ()), ("part", [], (), ()), ("part", (), [A], ()), ("part", (), (), A), ("part", None, (), ()), ("part", (("glue", Glue(1)),), (), ()),
             ("part", (), (("penalty", 0),), ()), ("part", (), (), (("rule", 1, 1, 1),)), ("part", (), (), (PART,)), ("part", (("mark", ""),), (), ()), ("part", (), (), (("box", box_of(), 0),)),
             ("part", (("letter", TEN, "c"),), (), ()), ("part", (A,) * 2001, (), ()), ("part", "a", (), ())),
    "mark": (("mark",), ("mark", "x" * 101), ("mark", "a\nb"), ("mark", "%"), ("mark", "\t"), ("mark", None), ("mark", ("a",)), ("mark", "a", "b")),
    "note": (("note",), ("note", box_of("row")), ("note", None), ("note", (A,)), ("note", box_of("column"), 0), ("note", nested(100)), ("note", nested(100, True))),
}


class Judging(unittest.TestCase):
    def test_constants(self):
        self.assertEqual((module.MAX_PENALTY, module.MAX_ITEMS), (10000, 2000))

    def test_items(self):
        for item in FINE:
            self.assertIs(is_item(item), True, item)

    def test_wrong_parts(self):
        for wrong in ALL_WRONG.values():
            for value in wrong:
                with self.subTest(value=value):
                    for judge in (is_item, lambda one: are_row_items((one,)), lambda one: are_column_items((one,))):
                        self.assertIs(judge(value), False)
                    for measure in (width_of, height_of, depth_of):
                        self.assertRaises(InvalidItem, measure, value)
                    self.assertRaises(InvalidItem, letters_of, (value,))

    def test_odd_values(self):
        for value in (*ODD_VALUES, ("kerns", 1), (["kern"], 1), (("kern",), 1), (None, 1), TEN, Patterns(()), box_of(), (1, 2, 3), ({},)):
            with self.subTest(value=value):
                self.assertIs(is_item(value), False)
                for measure in (width_of, height_of, depth_of):
                    self.assertRaises(InvalidItem, measure, value)
                if value != ():
                    self.assertIs(are_row_items(value), False)
                    self.assertIs(are_column_items(value), False)
                    self.assertRaises(InvalidItem, letters_of, value)
                if not isinstance(value, Frame):
                    self.assertIs(is_item(("box", value, 0)), False)

    def test_items_of_rows(self):
        for item in FINE:
            fine = item[0] != "rule" or item[1] is not None
            self.assertIs(are_row_items((item,)), fine, item)
            self.assertIs(are_row_items((A, item, A)), fine)
        self.assertIs(are_row_items(()), True)
        self.assertIs(are_row_items([A]), False)
        self.assertIs(are_row_items(A), False)

    def test_items_of_columns(self):
        for item in FINE:
            fine = item[0] in ("kern", "glue", "penalty", "box", "mark", "note") or (item[0] == "rule" and None not in item[2:])
            self.assertIs(are_column_items((item,)), fine, item)
            self.assertIs(are_column_items((("kern", 1), item)), fine)
        self.assertIs(are_column_items(()), True)
        self.assertIs(are_column_items([("kern", 1)]), False)

    def test_numbers_of_items(self):
        self.assertIs(are_row_items((A,) * 2000), True)
        self.assertIs(are_row_items((A,) * 2001), False)
        self.assertIs(are_column_items((("kern", 1),) * 2000), True)
        self.assertIs(are_column_items((("kern", 1),) * 2001), False)
        self.assertIs(is_item(("part", (A,) * 2000, (), ())), True)

    def test_items_in_boxes_and_notes(self):
        thousand = box_of("column", content=(("kern", 1),) * 999)
        for item in (("box", thousand, 0), ("note", thousand)):
            self.assertIs(are_column_items((item,) * 1000), True)
            self.assertIs(are_column_items((item,) * 1000 + (("kern", 1),)), False)
            self.assertIs(are_row_items((item,) * 999 + (A,) * 1000), True)
            self.assertIs(are_row_items((item,) * 999 + (A,) * 1001), False)
        inner = box_of("column", content=(("note", thousand),) * 10 + (("kern", 1),) * 5)
        self.assertIs(are_row_items((("box", inner, 0),) * 99), True)
        self.assertIs(are_row_items((("box", inner, 0),) * 100), False)

    def test_boxes_in_one_another(self):
        for as_note in (False, True):
            self.assertIs(is_item(("box", nested(99, as_note), 0)), True)
            self.assertIs(is_item(("note", nested(99, as_note))), True)
            self.assertIs(is_item(("box", nested(100, as_note), 0)), False)
        deep = box_of("column", content=(("box", nested(2), 0), ("box", nested(98), 0), ("kern", 1)))
        self.assertIs(is_item(("box", deep, 0)), True)
        self.assertIs(is_item(("box", box_of(content=(("box", deep, 0),)), 0)), False)


class Measures(unittest.TestCase):
    def check(self, item, width, height, depth):
        with self.subTest(item=item):
            self.assertEqual((width_of(item), height_of(item), depth_of(item)), (width, height, depth))

    def test_items(self):
        self.check(A, 10, 6, 0)
        self.check(B, 12, 8, 2)
        self.check(JOIN, 15, 7, 1)
        self.check(("kern", -7), -7, 0, 0)
        self.check(("glue", Glue(9, stretch=3, shrink=4)), 9, 0, 0)
        self.check(("penalty", 500), 0, 0, 0)
        self.check(("mark", "abc"), 0, 0, 0)
        self.check(("note", box_of("column")), 0, 0, 0)

    def test_rules(self):
        self.check(("rule", 3, 4, 5), 3, 4, 5)
        self.check(("rule", -3, -4, -5), -3, -4, -5)
        self.check(("rule", 3, None, 5), 3, 0, 5)
        self.check(("rule", 3, 4, None), 3, 4, 0)
        for measure in (width_of, height_of, depth_of):
            self.assertRaises(InvalidItem, measure, ("rule", None, 1, 2))

    def test_boxes(self):
        self.check(("box", box_of(), 0), 20, 9, 4)
        self.check(("box", box_of(), 3), 20, 6, 7)
        self.check(("box", box_of("column", (1, 2, 3)), -10), 1, 12, -7)

    def test_parts(self):
        self.check(PART, 10 - 3 + 15, 7, 1)
        self.check(("part", (B,), (B,), ()), 0, 0, 0)
        self.check(("part", (), (), (("kern", -5),)), -5, 0, 0)
        self.check(("part", (), (), (A, B)), 22, 8, 2)

    def test_letters_of_words(self):
        font = Font("ten", {"f": (3, 7, 0), "i": (2, 6, 0), "fi": (4, 7, 0)}, {("f", "i"): ("join", "fi", "none"), ("i", "f"): ("kern", 2)})
        pieces = set_word(font, "fiif")
        row = tuple([piece if piece[0] == "kern" else (piece[0], font, *piece[1:]) for piece in pieces])
        self.assertEqual((letters_of(row), sum([width_of(item) for item in row])), ("fiif", 4 + 2 + 2 + 3))


class Letters(unittest.TestCase):
    def test_letters(self):
        self.assertEqual(letters_of((A, JOIN, B, ("join", TEN, "fi", "xyz"), ("join", TEN, "a", ""))), "afibxyz")
        self.assertEqual(letters_of(()), "")
        self.assertEqual(letters_of((A, PART, A)), "aafia")
        self.assertEqual(letters_of((("kern", 1), ("glue", Glue(1)), ("penalty", 0), ("rule", 1, 1, 1), ("mark", "q"))), "")

    def test_boxes_but_not_notes(self):
        row = box_of(content=(A, B, PART))
        column = box_of("column", content=(("box", row, 0), ("note", column_of(B)), ("box", row, 3), ("mark", "m")))
        self.assertEqual(letters_of((A, ("box", column, 0), ("note", column), ("box", row, 1))), "a" + "abafi" * 2 + "abafi")
        self.assertEqual(letters_of((("box", column, 0), ("kern", 1))), "abafi" * 2)
        self.assertEqual(letters_of((("note", column),)), "")

    def test_deep_boxes(self):
        box = box_of(content=(A,))
        for _ in range(98):
            box = box_of(content=(("box", box, 0),))
        self.assertEqual(letters_of((("box", box, 0), B)), "ab")

    def test_neither_a_row_nor_a_column(self):
        narrow, low = ("rule", None, 1, 1), ("rule", 1, None, 1)
        self.assertEqual([letters_of((narrow,)), letters_of((low,))], ["", ""])
        for value in ((narrow, low), (narrow, A), (("rule", None, None, 1),), [A], A, (A,) * 2001, None):
            self.assertRaises(InvalidItem, letters_of, value)


def column_of(*letters):
    return box_of("column", content=(("box", box_of(content=letters), 0),))


if __name__ == "__main__":
    unittest.main()
