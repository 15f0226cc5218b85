"""[0.8] to [0.10], [2.1] and all that stands below "Stage 2: sorts of signs"."""

import unittest

from odd_values import ODD_VALUES, odd_values_but
from pagewright.errors import InvalidSort
from pagewright.text import sorts as module
from pagewright.text.sorts import SORTS, Sorts, is_sign, is_sort, is_text, is_token

ALL_SIGNS = "\n" + "".join([chr(code) for code in range(32, 127) if code != 37])
NO_SIGNS = ("%", "\t", "\r", "\0", "\x1f", "\x7f", "\u00e4", "\u2028", "ab", "")
LETTERS = "ABCDEFGHIJKLMNOPQRSTUVWXYZabcdefghijklmnopqrstuvwxyz"
SPECIAL = {"\\": "escape", "{": "open", "}": "close", "\n": "end", "#": "slot", " ": "blank", "~": "active",
           "`": "comment"}


def plain(sign):
    """The plain sort of a sign [2.1]."""
    return SPECIAL.get(sign, "letter" if sign in LETTERS else "other")


def is_short_string(value):
    return isinstance(value, str) and len(value) == 1 and value in ALL_SIGNS


def is_a_sort(value):
    return isinstance(value, str) and value in SORTS


class Judging(unittest.TestCase):
    def test_constants(self):
        self.assertEqual(SORTS, ("escape", "open", "close", "end", "slot", "ignored", "blank", "letter", "other",
                                 "active", "comment"))
        self.assertEqual(module.MAX_SIGNS, 20000)

    def test_examples(self):
        told = [is_sign("\n"), is_sign("ab"), is_text(""), is_token(("word", "par")), is_token(("sign", "x", "blank")),
                is_token(("sign", "`", "comment")), is_sign("!")]
        self.assertEqual(told, [True, False, True, True, False, False, True])

    def test_signs(self):
        for sign in ALL_SIGNS:
            self.assertIs(is_sign(sign), True)
        for value in NO_SIGNS:
            self.assertIs(is_sign(value), False)
        for value in ODD_VALUES:
            self.assertIs(is_sign(value), is_short_string(value))

    def test_texts(self):
        for value in (ALL_SIGNS, "", "a", "\n\n", " ", "a" * 30000):
            self.assertIs(is_text(value), True)
        for value in NO_SIGNS[:-2] + ("a%", "%a", "a\tb", "a" * 100 + "%"):
            self.assertIs(is_text(value), False)
        for value in ODD_VALUES:
            self.assertIs(is_text(value), isinstance(value, str) and value != "%")

    def test_sorts(self):
        for sort in SORTS:
            self.assertIs(is_sort(sort), True)
        for value in ("", "Letter", "letter ", "word", "sign", "let", 0, 1, SORTS, [], ("letter",)):
            self.assertIs(is_sort(value), False)
        for value in ODD_VALUES:
            self.assertIs(is_sort(value), is_a_sort(value))


class Tokens(unittest.TestCase):
    def check(self, is_one, *values):
        for value in values:
            with self.subTest(value):
                self.assertIs(is_token(value), is_one)

    def test_words(self):
        self.check(True, ("word", "par"), ("word", "a"), ("word", "\n"), ("word", " "), ("word", "a b!\n"),
                   ("word", "word"), ("word", "x" * 60))

    def test_no_words(self):
        self.check(False, ("word", ""), ("word", "x" * 61), ("word", "%"), ("word", "a%"), ("word", "\t"), ("word", 1),
                   ("word", None), ("word", ["a"]), ("word", ("a",)), ("word",), ("word", "a", "b"),
                   ("word", "a", "letter"), ["word", "a"], ("Word", "a"), ("sign", "a"), (True, "a"))

    def test_signs(self):
        for sort in ("open", "close", "slot", "letter", "other", "active"):
            for sign in ALL_SIGNS:
                self.assertIs(is_token(("sign", sign, sort)), True)

    def test_signs_of_sorts_that_no_token_has(self):
        for sort in ("escape", "end", "ignored", "comment"):
            for sign in ALL_SIGNS:
                self.assertIs(is_token(("sign", sign, sort)), False)

    def test_the_blank_token_is_the_only_one_of_its_sort(self):
        for sign in ALL_SIGNS:
            self.assertIs(is_token(("sign", sign, "blank")), sign == " ")

    def test_no_signs(self):
        self.check(False, ("sign", "ab", "letter"), ("sign", "", "letter"), ("sign", "%", "other"),
                   ("sign", "\t", "other"), ("sign", 1, "letter"), ("sign", None, "letter"), ("sign", ["a"], "letter"),
                   ("sign", "a", "Letter"), ("sign", "a", ""), ("sign", "a", None), ("sign", "a", 1),
                   ("sign", "a", ["letter"]), ("sign", " ", ["blank"]), ("sign", "a", "letter", ""),
                   ["sign", "a", "letter"], ("signs", "a", "letter"), (1, "a", "letter"))

    def test_every_value_is_judged(self):
        for value in ODD_VALUES:
            self.assertIs(is_token(value), value in (("word", "par"), ("sign", "a", "letter")))


class PlainSorts(unittest.TestCase):
    def test_the_sort_of_each_sign(self):
        for table in (Sorts(), Sorts(None), Sorts({})):
            for sign in ALL_SIGNS:
                self.assertEqual(table[sign], plain(sign), repr(sign))

    def test_signs_of_each_sort(self):
        for sort in SORTS:
            told = Sorts().signs_of(sort)
            self.assertEqual(told, tuple(sorted([sign for sign in ALL_SIGNS if plain(sign) == sort])))
        self.assertEqual(Sorts().signs_of("ignored"), ())

    def test_there_are_no_changes(self):
        self.assertEqual(Sorts().changes, {})
        self.assertEqual(str(Sorts()), "sorts with 0 changes")


class ChangedSorts(unittest.TestCase):
    def test_examples(self):
        some = Sorts({"~": "ignored", "`": "comment", "|": "escape"})
        told = [some["|"], some.changes, some.signs_of("escape"),
                some.with_sort("~", "active") == Sorts({"|": "escape"}), str(some)]
        self.assertEqual(told, ["escape", {"|": "escape", "~": "ignored"}, ("\\", "|"), True, "sorts with 2 changes"])

    def test_each_sign_with_each_sort(self):
        for changed in ALL_SIGNS:
            for sort in SORTS:
                for table in (Sorts({changed: sort}), Sorts().with_sort(changed, sort)):
                    told = {sign: table[sign] for sign in ALL_SIGNS}
                    self.assertEqual(told, {**{sign: plain(sign) for sign in ALL_SIGNS}, changed: sort})
                    self.assertEqual(table.changes, {} if plain(changed) == sort else {changed: sort})

    def test_signs_of_are_ascending(self):
        table = Sorts({"z": "active", "\n": "active", "!": "active", "~": "other", "|": "active"})
        self.assertEqual(table.signs_of("active"), ("\n", "!", "z", "|"))
        self.assertEqual(table.signs_of("end"), ())

    def test_changes_are_ascending_and_without_plain_sorts(self):
        table = Sorts({"~": "other", "b": "letter", "a": "other", "\n": "blank", " ": "blank", "A": "open"})
        self.assertEqual(list(table.changes.items()),
                         [("\n", "blank"), ("A", "open"), ("a", "other"), ("~", "other")])
        self.assertEqual(str(table), "sorts with 4 changes")

    def test_all_signs_can_be_changed(self):
        table = Sorts({sign: "ignored" for sign in ALL_SIGNS})
        self.assertEqual(table.signs_of("ignored"), tuple(sorted(ALL_SIGNS)))
        self.assertEqual(str(table), "sorts with 95 changes")

    def test_with_sort_leaves_the_table_as_it_is(self):
        table = Sorts({"!": "active"})
        other = table.with_sort("?", "open").with_sort("!", "escape").with_sort("a", "letter")
        self.assertEqual((table.changes, other.changes), ({"!": "active"}, {"!": "escape", "?": "open"}))
        self.assertEqual(other.with_sort("!", "other").changes, {"?": "open"})
        self.assertIsInstance(other, Sorts)

    def test_what_is_passed_is_not_shared(self):
        changes = {"!": "active", "a": "letter"}
        table = Sorts(changes)
        self.assertEqual(changes, {"!": "active", "a": "letter"})
        changes["!"] = "open"
        changes["?"] = "open"
        self.assertEqual(table.changes, {"!": "active"})
        self.assertEqual((table["!"], table["?"]), ("active", "other"))

    def test_what_is_returned_is_not_shared(self):
        table = Sorts({"!": "active"})
        table.changes["!"] = "open"
        table.changes.clear()
        self.assertEqual(table.changes, {"!": "active"})
        self.assertEqual(table["!"], "active")

    def test_equality(self):
        table = Sorts({"!": "active", "?": "open"})
        self.assertTrue(table == Sorts({"?": "open", "a": "letter", "!": "active"}))
        self.assertFalse(table != Sorts({"?": "open", "!": "active"}))
        for other in (Sorts(), Sorts({"!": "active"}), table.with_sort("?", "close"), table.with_sort("b", "other")):
            self.assertFalse(table == other)
            self.assertTrue(table != other)
        self.assertTrue(Sorts() == Sorts({"a": "letter", "\\": "escape"}))

    def test_equality_accepts_every_value(self):
        table = Sorts({"!": "active"})
        for value in (table.changes, "sorts with 1 changes", *odd_values_but(lambda one: isinstance(one, Sorts))):
            self.assertIs(table == value, False)
            self.assertIs(table != value, True)

    def test_str(self):
        self.assertEqual(str(Sorts({"!": "active"})), "sorts with 1 changes")

    def test_it_is_not_iterated_over(self):
        with self.assertRaises(TypeError):
            iter(Sorts())
        with self.assertRaises(TypeError):
            list(Sorts())


class WrongSorts(unittest.TestCase):
    def refuse(self, call, *arguments):
        with self.subTest(arguments), self.assertRaises(InvalidSort):
            call(*arguments)

    def test_wrong_changes(self):
        def is_fine(value):
            return value is None or value == {} or value == {"a": "letter"}
        for value in odd_values_but(is_fine):
            self.refuse(Sorts, value)
        for value in ({"ab": "letter"}, {"%": "other"}, {"": "other"}, {"a": "word"}, {"a": None}, {None: "other"},
                      {"a": ["other"]}, {"a": "letter", "b": ""}, {"a": "other", 1: "other"}, (("a", "other"),)):
            self.refuse(Sorts, value)

    def test_wrong_signs_to_look_up(self):
        table = Sorts()
        for value in odd_values_but(is_short_string) + list(NO_SIGNS):
            self.refuse(table.__getitem__, value)

    def test_wrong_sorts_to_look_up(self):
        for value in odd_values_but(is_a_sort) + ["", "Letter"]:
            self.refuse(Sorts().signs_of, value)

    def test_wrong_sign_or_sort_to_change(self):
        table = Sorts({"!": "active"})
        for value in odd_values_but(is_short_string) + list(NO_SIGNS):
            self.refuse(table.with_sort, value, "letter")
            self.refuse(table.with_sort, value, "no sort")
        for value in odd_values_but(is_a_sort):
            self.refuse(table.with_sort, "a", value)
        self.assertEqual(table.changes, {"!": "active"})


if __name__ == "__main__":
    unittest.main()
