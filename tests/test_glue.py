"""[1.3] to [1.5] and all that stands below "Stage 1: glue"."""

import re
import unittest
from fractions import Fraction
from itertools import permutations, product
from random import Random

from odd_values import ODD_VALUES
from pagewright.base import glue as module
from pagewright.base.glue import Glue
from pagewright.base.lengths import MAX_LENGTH, length_of, text_of_length
from pagewright.errors import InvalidGlue, ParseError

NAMES = ("pt", "fil", "fill", "filll")
NUMBERS = ("0", "1", "00001", "99", ".5", "0.5", "1.25", "00000.000000001", "12345.678912345", ".00001", "7.999999999")
NO_NUMBERS = ("", ".", "1.", ".1.", "1..2", "100000", "1.0123456789", "x", "1x", "+1", "--1", "1 ", "1,5", "1e2")


def units(number):
    """The units of a number of points, rounded as [1.2] says, by fractions."""
    return int(Fraction("0" + number if number.startswith(".") else number) * 65536 + Fraction(1, 2))


def parts(glue):
    return (glue.natural, glue.stretch, glue.stretch_order, glue.shrink, glue.shrink_order)


def some_glues():
    amounts = ((0, 0), (5, 0), (7, 1), (1, 1), (9, 2), (2, 3))
    return [Glue(natural, stretch=one, stretch_order=first, shrink=other, shrink_order=second)
            for natural in (-3, 0, 4) for one, first in amounts for other, second in amounts]


def sum_of(one, other):
    """The sum by [1.3], each part on its own."""
    found = {"natural": one.natural + other.natural}
    for name in ("stretch", "shrink"):
        both = [(getattr(glue, name + "_order"), getattr(glue, name)) for glue in (one, other)]
        order = max(both)[0]
        found[name] = sum([amount for told, amount in both if told == order])
        found[name + "_order"] = order
    return found


class Examples(unittest.TestCase):
    def test_first(self):
        glue = Glue.of_text("3pt plus 1fil minus 2pt")
        told = [glue.natural, glue.stretch, glue.stretch_order, glue.shrink, glue.shrink_order, str(glue), str(glue * 2)]
        self.assertEqual(told, [196608, 65536, 1, 131072, 0, "3pt plus 1fil minus 2pt", "6pt plus 2fil minus 4pt"])
        told = [str(glue + Glue(0, stretch=65536, shrink=32768)), Glue(5, stretch_order=2) == Glue(5), str(Glue(0)),
                Glue.of_text("1pt plus 0fill") == Glue(65536)]
        self.assertEqual(told, ["3pt plus 1fil minus 2.5pt", True, "0pt", True])

    def test_constants(self):
        self.assertEqual(module.ORDERS, NAMES)


class Made(unittest.TestCase):
    def test_parts(self):
        glue = Glue(-1, stretch=2, stretch_order=3, shrink=4, shrink_order=1)
        self.assertEqual(parts(glue), (-1, 2, 3, 4, 1))
        self.assertEqual(parts(Glue(5)), (5, 0, 0, 0, 0))

    def test_nothing_has_the_order_0(self):
        for order in range(4):
            self.assertEqual(parts(Glue(1, stretch_order=order, shrink_order=order)), (1, 0, 0, 0, 0))
            self.assertEqual(parts(Glue(1, stretch=1, stretch_order=order))[2], order)

    def test_limits(self):
        for value in (MAX_LENGTH, -MAX_LENGTH):
            self.assertEqual(Glue(value).natural, value)
        self.assertEqual(parts(Glue(0, stretch=MAX_LENGTH, shrink=MAX_LENGTH)), (0, MAX_LENGTH, 0, MAX_LENGTH, 0))
        for wrong in ({"stretch": MAX_LENGTH + 1}, {"shrink": MAX_LENGTH + 1}, {"stretch": -1}, {"shrink": -1},
                      {"stretch": -1, "stretch_order": 1}, {"stretch_order": 4}, {"shrink_order": 4},
                      {"stretch_order": -1}, {"shrink_order": -1}, {"stretch": 1, "stretch_order": 4}):
            with self.subTest(wrong), self.assertRaises(InvalidGlue):
                Glue(0, **wrong)
        for natural in (MAX_LENGTH + 1, -MAX_LENGTH - 1):
            with self.assertRaises(InvalidGlue):
                Glue(natural)

    def test_wrong_values(self):
        for value in ODD_VALUES:
            if isinstance(value, int) and not isinstance(value, bool) and abs(value) < 10:
                continue
            with self.subTest(value=value):
                with self.assertRaises(InvalidGlue):
                    Glue(value)
                for name in ("stretch", "stretch_order", "shrink", "shrink_order"):
                    with self.assertRaises(InvalidGlue):
                        Glue(0, **{name: value})

    def test_amounts_are_passed_by_keyword(self):
        with self.assertRaises(TypeError):
            Glue(1, 2)

    def test_it_never_changes(self):
        glue = Glue(1)
        for name in ("natural", "stretch", "stretch_order", "shrink", "shrink_order", "text"):
            with self.assertRaises(AttributeError):
                setattr(glue, name, 3)

    def test_it_is_not_iterated_over(self):
        with self.assertRaises(TypeError):
            iter(Glue(1))


class Texts(unittest.TestCase):
    def refuse(self, text):
        with self.subTest(text=text), self.assertRaises(ParseError) as caught:
            Glue.of_text(text)
        self.assertIsNone(caught.exception.number)

    def test_told_texts(self):
        for glue, text in ((Glue(65536), "1pt"), (Glue(-1, stretch=1), "-0.00002pt plus 0.00002pt"),
                           (Glue(0, shrink=65536, shrink_order=3), "0pt minus 1filll"),
                           (Glue(32768, stretch=98304, stretch_order=2, shrink=1), "0.5pt plus 1.5fill minus 0.00002pt"),
                           (Glue(0, stretch_order=3), "0pt")):
            self.assertEqual((glue.text, str(glue)), (text, text))

    def test_told_texts_lead_back(self):
        random = Random(5)
        for glue in some_glues():
            self.assertEqual(Glue.of_text(glue.text), glue)
        for _ in range(2000):
            glue = Glue(random.randint(-MAX_LENGTH, MAX_LENGTH), stretch=random.randrange(10 ** random.randrange(1, 10)),
                        stretch_order=random.randrange(4), shrink=random.randint(0, MAX_LENGTH),
                        shrink_order=random.randrange(4))
            self.assertEqual(parts(Glue.of_text(glue.text)), parts(glue))

    def test_told_numbers_are_those_of_lengths(self):
        for size in (1, 7, 65535, 65536, 1000000, MAX_LENGTH):
            number = text_of_length(size)[:-2]
            for order, name in enumerate(NAMES):
                self.assertEqual(Glue(size, shrink=size, shrink_order=order).text, f"{number}pt minus {number}{name}")

    def test_all_numbers_and_orders(self):
        for number in NUMBERS:
            for order, name in enumerate(NAMES):
                size = units(number)
                told = (size, order if size else 0)
                self.assertEqual(parts(Glue.of_text(f"1pt plus {number}{name}")), (65536, *told, 0, 0))
                self.assertEqual(parts(Glue.of_text(f"1pt minus {number}{name}")), (65536, 0, 0, *told))
                self.assertEqual(parts(Glue.of_text(f"1pt plus {number}{name} minus 3u")), (65536, *told, 3, 0))

    def test_natural_lengths(self):
        for number in NUMBERS:
            for sign in ("", "-"):
                self.assertEqual(Glue.of_text(f"{sign}{number}pt").natural, length_of(f"{sign}{number}pt"))

    def test_units(self):
        for text, told in (("7u", (7, 0, 0, 0, 0)), ("-0000000007u", (-7, 0, 0, 0, 0)),
                           ("1u plus 0000000002u minus 1073741823u", (1, 2, 0, MAX_LENGTH, 0))):
            self.assertEqual(parts(Glue.of_text(text)), told)
        for text in ("u", "12345678901u", "1u plus 12345678901u", "1.5u", "1pt plus 1.5u", "1pt plus .u", "1pt plus 1uu",
                     "1pt plus 1ufil", "1pt plus 1ptfil", "1u plus 1filu"):
            self.refuse(text)

    def test_wrong_numbers(self):
        for number in NO_NUMBERS:
            for name in NAMES:
                self.refuse(f"1pt plus {number}{name}")
                self.refuse(f"1pt minus {number}{name}")
                self.refuse(f"1pt plus 1pt minus {number}{name}")
            if number != "--1":
                self.refuse(f"{number}pt")

    def test_wrong_texts(self):
        for text in ("", " ", "1", "pt", "1fil", "-1fil", "1pt plus -1pt", "1pt minus -1pt", "1pt plus -0pt", "1pt  plus 1pt",
                     " 1pt", "1pt ", "1pt plus", "1pt plus ", "1pt minus", "1pt plus 1pt minus", "plus 1pt", "1pt 1pt",
                     "1pt minus 1pt plus 1pt", "1pt plus 1pt plus 1pt", "1pt minus 1pt minus 1pt", "1pt plus 1fi",
                     "1pt plus 1fillll", "1pt plus 1filf", "1pt plus 1 fil", "1pt\nplus 1pt", "1pt Plus 1pt", "1ptplus 1pt",
                     "1pt plus1pt", "1pt plus 1pt minus 1pt ", "1pt plus 1pt minus 1pt minus 1pt", "1PT", "1pt plus 1FIL",
                     "--1pt", "1pt\n"):
            self.refuse(text)

    def test_no_strings(self):
        for value in ODD_VALUES:
            if not isinstance(value, str) or value != "1pt":
                self.refuse(value)

    def test_each_sign_changed(self):
        text = "12.5pt plus 3fil minus .5u"
        self.refuse(text)
        text = "12.5pt plus 3fil minus .5fill"
        self.assertEqual(parts(Glue.of_text(text)), (819200, 196608, 1, 32768, 2))
        for index in range(len(text)):
            self.check(text[:index] + text[index + 1:])
            for sign in "1.-ptuflimns x":
                self.check(text[:index] + sign + text[index:])
                self.check(text[:index] + sign + text[index + 1:])

    def check(self, text):
        """A text is read exactly if a pattern tells so."""
        number = r"([0-9]{1,5}|[0-9]{0,5}\.[0-9]{1,9})"
        amount = rf"({number}(pt|fil|fill|filll)|[0-9]{{1,10}}u)"
        natural = rf"-?({number}pt|[0-9]{{1,10}}u)"
        if re.fullmatch(rf"{natural}( plus {amount})?( minus {amount})?", text):
            try:
                Glue.of_text(text)
            except InvalidGlue:
                self.assertTrue(max([len(word) for word in text.split(" ")]) > 6)
        else:
            self.refuse(text)

    def test_numbers_that_are_no_lengths(self):
        for text in ("16384pt", "-16384pt", "1073741824u", "99999pt", "9999999999u", "1pt plus 16384fil",
                     "1pt minus 16384.0filll", "1pt plus 1073741824u", "16384pt plus 16384pt"):
            with self.subTest(text), self.assertRaises(InvalidGlue):
                Glue.of_text(text)
        self.assertEqual(Glue.of_text("16383.99998pt minus 16383.99998fill").shrink, MAX_LENGTH)

    def test_what_is_no_text_comes_first(self):
        for text in ("16384pt plus", "16384pt plus 1", "1pt plus 16384pt minus x", "99999pt "):
            self.refuse(text)


class Operators(unittest.TestCase):
    def test_sums(self):
        for one, other in product(some_glues(), repeat=2):
            self.assertEqual(one + other, Glue(**sum_of(one, other)))

    def test_sums_in_other_orders_and_brackets(self):
        random = Random(7)
        glues = some_glues()
        for _ in range(300):
            some = [random.choice(glues) for _ in range(4)]
            sums = [((a + b) + c) + d for a, b, c, d in permutations(some)]
            sums.extend([(a + b) + (c + d) for a, b, c, d in permutations(some)])
            sums.extend([a + (b + (c + d)) for a, b, c, d in permutations(some)])
            self.assertTrue(all([glue == sums[0] for glue in sums]))

    def test_products(self):
        for glue in some_glues():
            for many in (0, 1, 2, 1000):
                told = [part * many for part in (glue.natural, glue.stretch, glue.shrink)]
                self.assertEqual(glue * many, Glue(told[0], stretch=told[1], stretch_order=glue.stretch_order,
                                                   shrink=told[2], shrink_order=glue.shrink_order))
        self.assertEqual(parts(Glue(3, stretch=2, stretch_order=2) * 0), (0, 0, 0, 0, 0))
        self.assertEqual(Glue(3) * -2, Glue(-6))

    def test_results_that_are_no_glue(self):
        big = Glue(MAX_LENGTH, stretch=MAX_LENGTH, stretch_order=1)
        for call in (lambda: big + Glue(1), lambda: big + Glue(0, stretch=1, stretch_order=1), lambda: Glue(1, shrink=1) * -1,
                     lambda: big * 2, lambda: Glue(0, stretch=1) * 10 ** 59, lambda: Glue(-MAX_LENGTH) + Glue(-1)):
            with self.assertRaises(InvalidGlue):
                call()
        self.assertEqual(parts(big + Glue(-1, stretch=9)), (MAX_LENGTH - 1, MAX_LENGTH, 1, 0, 0))

    def test_integers_of_many_digits(self):
        self.assertEqual(Glue(0) * (10 ** 60 - 1), Glue(0))
        for many in (10 ** 60, -10 ** 60, 10 ** 99):
            with self.assertRaises(InvalidGlue):
                Glue(0) * many

    def test_operands_of_another_kind(self):
        for value in ODD_VALUES:
            with self.subTest(value=value):
                if not isinstance(value, Glue):
                    for call in (lambda: Glue(1) + value, lambda: value + Glue(1)):
                        self.assertRaises(TypeError, call)
                if not isinstance(value, int) or isinstance(value, bool):
                    self.assertRaises(TypeError, lambda: Glue(1) * value)
                self.assertRaises(TypeError, lambda: value * Glue(1))
        for call in (lambda: Glue(1) * True, lambda: Glue(1) * False, lambda: Glue(1) * 1.0, lambda: Glue(1) * Glue(1)):
            self.assertRaises(TypeError, call)

    def test_equality(self):
        glues = some_glues()
        for one, other in product(glues, repeat=2):
            self.assertIs(one == other, parts(one) == parts(other))
            self.assertIs(one != other, parts(one) != parts(other))
        for value in ODD_VALUES:
            if not isinstance(value, Glue):
                self.assertIs(Glue(0) == value, False)
                self.assertIs(Glue(0) != value, True)

    def test_operands_stay_as_they_are(self):
        one, other = Glue(1, stretch=2), Glue(3, stretch=4, stretch_order=1)
        one + other, one * 3
        self.assertEqual((parts(one), parts(other)), ((1, 2, 0, 0, 0), (3, 4, 1, 0, 0)))


if __name__ == "__main__":
    unittest.main()
