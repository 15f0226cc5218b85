"""[1.1], [1.2] and all that stands below "Stage 1: lengths"."""

import unittest
from fractions import Fraction
from random import Random

from odd_values import ODD_VALUES, odd_values_but
from pagewright.base import lengths
from pagewright.base.lengths import MAX_LENGTH, is_length, length_of, scaled, text_of_length
from pagewright.errors import InvalidLength, InvalidNumber, ParseError


def nearest(number):
    """The integer nearest to a fraction, a half away from 0."""
    size = abs(number)
    whole = size.numerator // size.denominator
    if size - whole >= Fraction(1, 2):
        whole += 1
    return -whole if number < 0 else whole


def text_by_search(length):
    """The text of a length as the document words it, found by trying all numbers nearby."""
    size = Fraction(abs(length), 65536)
    for decimals in range(6):
        power = 10 ** decimals
        around = size.numerator * power // size.denominator
        found = [
            number for number in range(max(0, around - 3), around + 4)
            if nearest(Fraction(number * 65536, power)) == abs(length)
        ]
        if found:
            number = min(found, key=lambda one: (abs(Fraction(one, power) - size), one))
            digits = str(number).zfill(decimals + 1)
            text = digits[:len(digits) - decimals]
            if decimals:
                text += "." + digits[-decimals:]
            return ("-" if length < 0 else "") + text + "pt"
    raise AssertionError("five decimals are not enough")


class IsLength(unittest.TestCase):
    def test_constants(self):
        self.assertEqual((lengths.POINT, lengths.MAX_LENGTH), (65536, 1073741823))

    def test_integers_up_to_the_greatest(self):
        for value in (0, 1, -1, 65536, MAX_LENGTH, -MAX_LENGTH):
            self.assertIs(is_length(value), True)

    def test_greater_ones(self):
        for value in (MAX_LENGTH + 1, -MAX_LENGTH - 1, 10 ** 59, 10 ** 60, -10 ** 99):
            self.assertIs(is_length(value), False)

    def test_every_value_is_judged(self):
        for value in ODD_VALUES:
            self.assertIs(is_length(value), type(value) is int and abs(value) < 2 ** 30)


class LengthOf(unittest.TestCase):
    def check(self, **told):
        for text, length in told.items():
            self.assertEqual(length_of(text), length, text)

    def test_examples(self):
        texts = ("1pt", "-12.5pt", ".5pt", "7u", "0.00001pt", "0.00002pt")
        self.assertEqual([length_of(text) for text in texts], [65536, -819200, 32768, 7, 1, 1])

    def test_units(self):
        self.check(**{"0u": 0, "-0u": 0, "1u": 1, "-7u": -7, "1073741823u": MAX_LENGTH, "-1073741823u": -MAX_LENGTH})

    def test_points(self):
        self.check(**{"0pt": 0, "-0pt": 0, "3pt": 196608, "-3pt": -196608, "16383pt": 1073676288})

    def test_points_with_decimals(self):
        self.check(**{
            "1.0pt": 65536, "-.5pt": -32768, "12345.6789pt": 809086412, ".000000001pt": 0, "-0.000000001pt": 0,
            "16383.999984741pt": MAX_LENGTH, "-16383.999984741pt": -MAX_LENGTH, ".999999999pt": 65536,
        })

    def test_zeros_ahead(self):
        self.check(**{
            "0000000007u": 7, "00001pt": 65536, "00000.5pt": 32768, "-00012.50pt": -819200, "0000000000u": 0,
            "00000pt": 0,
        })

    def test_zeros_ahead_are_digits(self):
        self.refuse(("00000000007u", 10), ("000001pt", 6), ("000000.5pt", 6))

    def test_numbers_next_to_a_half(self):
        # Nine decimals never tell exactly half a unit.
        self.check(**{
            ".001953125pt": 128, ".000007629pt": 0, ".000007630pt": 1, "-.000007629pt": 0, "-.000007630pt": -1,
            ".000022888pt": 1, ".000022889pt": 2, "-.000022889pt": -2,
        })

    def test_many_numbers_next_to_a_half(self):
        random = Random(1)
        for _ in range(2000):
            half = Fraction(2 * random.randrange(2 ** random.randrange(1, 30)) + 1, 2) / 65536
            number = int(half * 10 ** 9) + random.choice((-1, 0, 1, 2))
            text = f"{number // 10 ** 9}.{str(number % 10 ** 9).zfill(9)}pt"
            told = nearest(Fraction(number * 65536, 10 ** 9))
            if told <= MAX_LENGTH:
                self.assertEqual((length_of(text), length_of("-" + text)), (told, -told), text)

    def refuse(self, *told):
        for text, number in told:
            with self.subTest(text):
                with self.assertRaises(ParseError) as caught:
                    length_of(text)
                self.assertEqual(caught.exception.number, number)

    def test_no_string(self):
        for value in ODD_VALUES:
            if not isinstance(value, str):
                self.refuse((value, None))

    def test_texts_that_end_too_early(self):
        for text in ("", "-", "1", "-1", "12345", "123456", "1234567890", "1.", ".", "-.", "1.5", "1.123456789", "1p",
                     "-.5p", "00000", "12345.", "0"):
            self.refuse((text, len(text)))

    def test_the_least_index_at_which_no_text_goes_on(self):
        self.refuse(
            ("1.pt", 2), ("--1pt", 1), ("+1pt", 0), (" 1pt", 0), ("1 pt", 1), ("- 1pt", 1), ("1pt ", 3), ("1ptt", 3),
            ("1u ", 2), ("1uu", 2), ("1pu", 2), ("1px", 2), ("1x", 1), ("x", 0), ("-x", 1), ("u", 0), ("pt", 0),
            ("-u", 1), ("-pt", 1), (".pt", 1), (".u", 1), ("1.5u", 3), ("1.u", 2), ("..5pt", 1), ("1..5pt", 2),
            ("1.5.5pt", 3), ("1,5pt", 1), ("1.-5pt", 2), ("1-pt", 1), ("1PT", 1), ("1U", 1), ("1\n", 1), ("\n", 0),
        )

    def test_too_many_digits(self):
        self.refuse(
            ("12345678901u", 10), ("12345678901", 10), ("-12345678901u", 11), ("123456pt", 6), ("-123456pt", 7),
            ("123456.5pt", 6), ("1234567890pt", 10), ("1234567890.5pt", 10), ("1.1234567890pt", 11),
            (".1234567890pt", 10), ("1.1234567890", 11), ("9" * 4000, 10),
        )

    def test_digits_of_other_scripts(self):
        self.refuse(("\u0661pt", 0), ("1\u00b2pt", 1), ("1.\u0661pt", 2))

    def test_no_length(self):
        for text in ("1073741824u", "-1073741824u", "9999999999u", "16384pt", "-16384pt", "99999pt", "16384.0pt",
                     "16383.999993pt", "-16383.999993pt", "99999.999999999pt"):
            with self.subTest(text), self.assertRaises(InvalidLength):
                length_of(text)

    def test_the_form_is_looked_at_ahead_of_the_size(self):
        self.refuse(("1073741824u ", 11), ("16384p", 6), ("99999px", 6), ("99999.9u", 7), ("9999999999", 10))


class TextOfLength(unittest.TestCase):
    def test_examples(self):
        told = [text_of_length(length) for length in (1, 65535, -819200, 0)]
        self.assertEqual(told, ["0.00002pt", "0.99998pt", "-12.5pt", "0pt"])

    def test_each_number_of_decimals(self):
        for length, text in (
            (65536, "1pt"), (-131072, "-2pt"), (6554, "0.1pt"), (-32768, "-0.5pt"), (655, "0.01pt"), (66, "0.001pt"),
            (7, "0.0001pt"), (-8, "-0.00012pt"), (3, "0.00005pt"), (-1, "-0.00002pt"), (2, "0.00003pt"),
            (655360, "10pt"), (MAX_LENGTH, "16383.99998pt"), (-MAX_LENGTH, "-16383.99998pt"),
        ):
            self.assertEqual(text_of_length(length), text)

    def check(self, length):
        text = text_of_length(length)
        self.assertEqual(length_of(text), length)
        self.assertEqual(text, text_by_search(length))

    def test_texts_lead_back_and_are_the_nearest_of_the_shortest(self):
        random = Random(2)
        for _ in range(4000):
            self.check(random.randrange(-2 ** random.randrange(1, 31) + 1, 2 ** random.randrange(1, 31)))
        for length in list(range(-700, 700)) + list(range(MAX_LENGTH - 50, MAX_LENGTH + 1)):
            self.check(length)

    def test_of_two_equally_near_texts_the_one_nearer_to_zero(self):
        for length, text in ((1024, "0.01562pt"), (-1024, "-0.01562pt"), (3072, "0.04687pt"), (-3072, "-0.04687pt")):
            self.assertEqual(text_of_length(length), text)
            self.assertEqual(text_by_search(length), text)

    def test_all_lengths_with_few_decimals(self):
        for decimals in range(5):
            for number in range(0, 3 * 10 ** decimals, max(1, 10 ** decimals // 300)):
                self.check(nearest(Fraction(number * 65536, 10 ** decimals)))

    def test_no_length(self):
        for value in odd_values_but(is_length) + [MAX_LENGTH + 1, -MAX_LENGTH - 1]:
            with self.assertRaises(InvalidLength):
                text_of_length(value)


class Scaled(unittest.TestCase):
    def test_examples(self):
        self.assertEqual([scaled(7, 1, 2), scaled(-7, 1, 2), scaled(10, 2, 3)], [4, -4, 7])

    def test_both_signs(self):
        self.assertEqual([scaled(7, -1, 2), scaled(-7, -1, 2), scaled(-10, 2, 3), scaled(10, -2, 3)], [-4, 4, -7, -7])

    def test_rounding(self):
        for length in range(-30, 31):
            for times in range(-7, 8):
                for by in range(1, 9):
                    self.assertEqual(scaled(length, times, by), nearest(Fraction(length * times, by)))

    def test_sixty_digits(self):
        great = 10 ** 60 - 1
        self.assertEqual(scaled(MAX_LENGTH, great, great), MAX_LENGTH)
        self.assertEqual(scaled(-MAX_LENGTH, -great, great), MAX_LENGTH)
        self.assertEqual(scaled(0, great, 1), 0)
        self.assertEqual(scaled(MAX_LENGTH, 1, great), 0)

    def test_the_greatest_results(self):
        self.assertEqual(scaled(MAX_LENGTH, 1, 1), MAX_LENGTH)
        self.assertEqual(scaled(2 * MAX_LENGTH // 4, -2, 1), -MAX_LENGTH + 1)
        self.assertEqual(scaled(MAX_LENGTH, 2 ** 40 + 1, 2 ** 40), MAX_LENGTH)

    def test_a_result_that_is_no_length(self):
        for length, times, by in ((MAX_LENGTH, 2, 1), (2 ** 29, 2, 1), (-2 ** 29, 2, 1), (1, 10 ** 59, 3),
                                  (2 ** 29, 2 ** 32 - 2, 2 ** 31), (-1, 10 ** 60 - 1, 1)):
            with self.subTest(times=times), self.assertRaises(InvalidLength):
                scaled(length, times, by)

    def test_a_result_just_rounded_beyond(self):
        self.assertEqual(scaled(MAX_LENGTH, 4 * MAX_LENGTH + 1, 4 * MAX_LENGTH), MAX_LENGTH)
        for length in (MAX_LENGTH, -MAX_LENGTH):
            with self.assertRaises(InvalidLength):
                scaled(length, 2 * MAX_LENGTH + 1, 2 * MAX_LENGTH)

    def refuse_number(self, value, *arguments):
        with self.assertRaises(InvalidNumber) as caught:
            scaled(*arguments)
        self.assertIs(caught.exception.value, value)

    def test_wrong_length(self):
        for value in odd_values_but(is_length):
            with self.assertRaises(InvalidLength):
                scaled(value, 1, 1)

    def test_wrong_times(self):
        for value in odd_values_but(lambda one: type(one) is int and abs(one) < 10 ** 60):
            self.refuse_number(value, 5, value, 1)

    def test_wrong_by(self):
        for value in odd_values_but(lambda one: type(one) is int and 1 <= one < 10 ** 60):
            self.refuse_number(value, 5, 1, value)

    def test_wrong_values_in_several_places(self):
        with self.assertRaises(InvalidLength):
            scaled("length", "times", "by")
        with self.assertRaises(InvalidLength):
            scaled(2 ** 30, True, 0)
        self.refuse_number("times", 5, "times", "by")
        self.refuse_number(True, MAX_LENGTH, True, 0)
        self.refuse_number(0, MAX_LENGTH, 10 ** 50, 0)
        self.refuse_number(-1, MAX_LENGTH, 10 ** 50, -1)


if __name__ == "__main__":
    unittest.main()
