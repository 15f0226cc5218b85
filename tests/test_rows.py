"""[0.11] and the functions of "Stage 3" on how rows are nested."""

import unittest
from itertools import product

from odd_values import ODD_VALUES, odd_values_but
from pagewright.errors import InvalidNumber, InvalidOperation, InvalidRow
from pagewright.text import rows
from pagewright.text.rows import depths, is_balanced, is_row, partner

X, HI = ("sign", "x", "letter"), ("word", "hi")
OPEN, CLOSE = ("sign", "{", "open"), ("sign", "}", "close")
# The sort tells what a token is, neither its sign nor the name of a word.
LEFT, RIGHT = ("sign", "x", "open"), ("sign", "{", "close")
NO_BRACES = (("sign", "{", "other"), ("word", "open"), ("word", "{"), ("word", "close"), ("sign", "}", "active"))
TOKENS = {"(": OPEN, ")": CLOSE, "[": LEFT, "]": RIGHT, "x": X, "h": HI}


def row_of(signs):
    return tuple([TOKENS[sign] for sign in signs])


def is_a_row(value):
    return isinstance(value, tuple) and value in ((), (("word", "par"),))


def is_flat(row):
    """Whether a row is balanced, by taking out neighbours that belong together until there are none."""
    kinds = "".join([{"open": "(", "close": ")"}.get(token[-1], "") for token in row if token[0] == "sign"])
    while "()" in kinds:
        kinds = kinds.replace("()", "")
    return kinds == ""


def partner_by_search(row, index):
    """The nearest token of the other kind with a balanced row between both, None without one."""
    found = []
    for other in range(len(row)):
        first, last = min(index, other), max(index, other)
        if row[first][-1] == "open" and row[last][-1] == "close" and first < last and is_flat(row[first + 1:last]):
            found.append((last - first, other))
    return min(found)[1] if found else None


class IsRow(unittest.TestCase):
    def test_constant(self):
        self.assertEqual(rows.MAX_ROW, 5000)

    def test_rows(self):
        for value in ((), (X,), (HI, X, OPEN, ("sign", " ", "blank")), (CLOSE, OPEN), NO_BRACES, (X,) * 5000):
            self.assertIs(is_row(value), True)

    def test_no_rows(self):
        for value in ((X,) * 5001, (X, "x"), (X, ()), (X, None), ((X,),), [X], X, HI, ("word",), (X, ["word", "hi"]),
                      (X, ("sign", "x", "blank")), {X: X}, "x", (X,) * 4999 + (("word", ""),)):
            self.assertIs(is_row(value), False)

    def test_every_value_is_judged(self):
        for value in ODD_VALUES:
            self.assertIs(is_row(value), is_a_row(value))


class Depths(unittest.TestCase):
    def test_examples(self):
        self.assertEqual([is_balanced((OPEN, X, CLOSE)), is_balanced((CLOSE, OPEN))], [True, False])
        self.assertEqual(depths((OPEN, X, CLOSE, CLOSE)), (0, 1, 1, 0, -1))

    def test_depths(self):
        for signs, told in (("", (0,)), ("x", (0, 0)), ("((", (0, 1, 2)), ("))", (0, -1, -2)), (")(", (0, -1, 0)),
                            ("(x[h]x)", (0, 1, 1, 2, 2, 1, 1, 0)), ("[)(]", (0, 1, 0, 1, 0))):
            self.assertEqual(depths(row_of(signs)), told)
            self.assertIsInstance(depths(row_of(signs)), tuple)

    def test_only_the_sorts_open_and_close_count(self):
        self.assertEqual(depths(NO_BRACES), (0,) * 6)
        self.assertIs(is_balanced(NO_BRACES), True)

    def test_balanced(self):
        for signs in ("", "x", "xh", "()", "[)", "(x(h)[])x()"):
            self.assertIs(is_balanced(row_of(signs)), True)
        for signs in ("(", ")", ")(", "(()", "())", "x)(x", "()]["):
            self.assertIs(is_balanced(row_of(signs)), False)

    def test_all_short_rows(self):
        for many in range(7):
            for signs in product("()x", repeat=many):
                row = row_of(signs)
                told = tuple([signs[:end].count("(") - signs[:end].count(")") for end in range(many + 1)])
                self.assertEqual(depths(row), told)
                self.assertIs(is_balanced(row), is_flat(row))

    def test_long_rows(self):
        row = (OPEN,) * 2500 + (CLOSE,) * 2500
        self.assertEqual(depths(row), tuple(range(2501)) + tuple(range(2499, -1, -1)))
        self.assertIs(is_balanced(row), True)

    def test_wrong_rows(self):
        for value in odd_values_but(is_a_row) + [(X,) * 5001, [OPEN, CLOSE]]:
            for call in (depths, is_balanced):
                with self.assertRaises(InvalidRow):
                    call(value)


class Partner(unittest.TestCase):
    def test_example(self):
        self.assertEqual(partner((OPEN, OPEN, CLOSE, CLOSE), 3), 0)

    def test_partners(self):
        row = row_of("x(h[x]()h)x()")
        pairs = ((1, 9), (3, 5), (6, 7), (11, 12))
        for first, last in pairs:
            self.assertEqual((partner(row, first), partner(row, last)), (last, first))

    def test_no_partner(self):
        for signs, index in (("(", 0), (")", 0), (")(", 0), (")(", 1), ("(()", 0), ("())", 2), ("x(x", 1), ("](x)[", 4),
                             ("((((", 0), ("))))", 3)):
            with self.subTest(signs), self.assertRaises(InvalidOperation):
                partner(row_of(signs), index)

    def test_all_short_rows(self):
        for many in range(1, 8):
            for signs in product("()x", repeat=many):
                row = row_of(signs)
                for index in range(many):
                    if signs[index] != "x":
                        self.check(row, index)

    def check(self, row, index):
        told = partner_by_search(row, index)
        if told is None:
            with self.assertRaises(InvalidOperation):
                partner(row, index)
        else:
            self.assertEqual(partner(row, index), told)

    def test_long_rows(self):
        row = (OPEN,) * 2500 + (CLOSE,) * 2500
        self.assertEqual([partner(row, index) for index in (0, 2499, 2500, 4999)], [4999, 2500, 2499, 0])

    def refuse_number(self, row, value):
        with self.subTest(value), self.assertRaises(InvalidNumber) as caught:
            partner(row, value)
        self.assertIs(caught.exception.value, value)

    def test_wrong_numbers(self):
        row = (OPEN, CLOSE, X, HI)
        for value in odd_values_but(lambda one: type(one) is int and one in (0, 1)) + [2, 3, 4, 5, -2, -3, -4]:
            self.refuse_number(row, value)
        self.refuse_number((), 0)
        for index in range(5):
            self.refuse_number(NO_BRACES, index)

    def test_booleans_are_no_numbers(self):
        self.refuse_number((OPEN, CLOSE), False)
        self.refuse_number((OPEN, CLOSE), True)

    def test_wrong_rows(self):
        for value in odd_values_but(is_a_row) + [(X,) * 5001, [OPEN, CLOSE], (OPEN, CLOSE, "x")]:
            for index in (0, 9, None):
                with self.assertRaises(InvalidRow):
                    partner(value, index)


if __name__ == "__main__":
    unittest.main()
