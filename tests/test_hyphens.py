"""[8.1] to [8.7] and all that stands below "Stage 8: hyphens"."""

import re
import unittest
from itertools import product
from random import Random

from odd_values import ODD_VALUES
from pagewright.errors import InvalidNumber, InvalidOperation, InvalidPatterns
from pagewright.font import hyphens as module
from pagewright.font.hyphens import (Patterns, are_alike, idle_patterns, is_pattern, least_unlike, numbers_of, pattern_text, signs_of)

ALL = "abcdefghijklmnopqrstuvwxyz"
PATTERNS = ("a", "a1", "1a", "a1b", "1a2b3", ".a", ".1a", ".a1", "a.", "a1.", "1a.", ".a.", ".1a1.", "abcdefgh", "1a2b3c4d5e6f7g8h9", ".abcdef.",
            "0a0", "a0b", ".abcdefg", "abcdefg.", "a9a9a")
FINE_TUPLES = ((), ("word",), ("word", "par"), ("sign", "a", "letter"))
NO_PATTERNS = ("", ".", "..", "1", "1.", ".1", "1.a", "a.1", "a12b", "12a", "a12", ".12a", "a.b", "..a", "a..", "abcdefghi", ".abcdefgh", "abcdefgh.",
               ".abcdefg.", "A", "a b", "a-b", "a1B", "a\n", "%", "\u00e4", " a", "a1.b", ".1.", "1.1", ".1a.1")


def book_numbers(patterns, word):
    """The numbers of the gaps of a word by [8.3], with signs and numbers read from the texts once more."""
    text = "." + word + "."
    found = {}
    for pattern in patterns:
        signs, numbers = "", {0: 0}
        for character in pattern:
            if character in "0123456789":
                numbers[len(signs)] = int(character)
            else:
                signs += character
        for place in range(len(text)):
            if text.startswith(signs, place):
                for index, number in numbers.items():
                    found[place + index] = max(found.get(place + index, 0), number)
    return tuple([found.get(gap + 1, 0) for gap in range(len(word) + 1)])


def book_points(told, word):
    """The points by [8.5]."""
    gaps = [gap for gap, number in enumerate(book_numbers(told.patterns, word)) if number % 2]
    for exception in told.exceptions:
        if exception.replace("-", "") == word:
            parts = exception.split("-")
            gaps = [len("".join(parts[:end])) for end in range(1, len(parts))]
    return tuple([gap for gap in gaps if told.front <= gap <= len(word) - told.end])


def words_of(letters, most):
    for many in range(1, most + 1):
        for signs in product(letters, repeat=many):
            yield "".join(signs)


def most_of(one, other):
    """As many letters as the word of [8.6] can have."""
    signs = max(one.longest, other.longest)
    longest = max([0] + [len(text.replace("-", "")) + 1 for text in one.exceptions + other.exceptions])
    return max(max(signs, one.front, other.front) + max(signs, one.end, other.end), longest)


def least_by_search(one, other, letters, most):
    for word in words_of(letters, most):
        if book_points(one, word) != book_points(other, word):
            return word
    return None


def random_pattern(random, letters, most):
    signs = "".join([random.choice(letters) for _ in range(random.randint(1, most))])
    signs = random.choice(("", "", "", ".")) + signs + random.choice(("", "", "", "."))
    numbers = [random.choice((0, 0, 1, 1, 2, 3)) for _ in range(len(signs) + 1)]
    numbers[0] *= signs[0] != "."
    numbers[-1] *= signs[-1] != "."
    return pattern_text(signs, tuple(numbers))


def random_exceptions(random, letters, most):
    found = {}
    for _ in range(random.choice((0, 0, 1, 3))):
        word = "".join([random.choice(letters) for _ in range(random.randint(1, most))])
        found[word] = "-".join(word) if random.random() < 0.3 else word[0] + "".join([random.choice(("", "-")) + letter for letter in word[1:]])
    return tuple(found.values())


def random_lists(random, letters, most):
    """Two lists that have much in common."""
    some = {signs_of(text): text for text in [random_pattern(random, letters, most) for _ in range(random.randint(0, 4))]}
    others = dict(some)
    for _ in range(random.randint(0, 2)):
        text = random_pattern(random, letters, most)
        others[signs_of(text)] = text
    if random.random() < 0.3 and others:
        del others[random.choice(sorted(others))]
    exceptions = random_exceptions(random, letters, 4)
    limits = [random.randint(1, 3), random.randint(1, 3)]
    more = exceptions if random.random() < 0.6 else random_exceptions(random, letters, 4)
    other_limits = limits if random.random() < 0.7 else [random.randint(1, 3), random.randint(1, 3)]
    return (Patterns(tuple(some.values()), exceptions=exceptions, front=limits[0], end=limits[1]),
            Patterns(tuple(others.values()), exceptions=more, front=other_limits[0], end=other_limits[1]))


class Examples(unittest.TestCase):
    def test_examples(self):
        some = Patterns(("a1b", ".a2b", "b1a"), exceptions=("ab-ba",))
        wide = some.with_limits(1, 1)
        told = [some.numbers("abab"), some.points("abab"), wide.points("abab"), wide.parted("abab"), some.points("abba"), str(some)]
        self.assertEqual(told, [(0, 2, 1, 1, 0), (2,), (2, 3), "ab-a-b", (2,), "patterns 3, exceptions 1"])
        told = [numbers_of(".a2b"), numbers_of("1ab3."), pattern_text("ab.", (1, 0, 3, 0)), is_pattern("a12b"), is_pattern("2.a")]
        self.assertEqual(told, [(0, 0, 2, 0), (1, 0, 3, 0), "1ab3.", False, False])
        none, one = Patterns((), front=1, end=1), Patterns(("a1b",), front=1, end=1)
        told = [least_unlike(one, none, "ab"), least_unlike(one.with_limits(2, 2), none.with_limits(2, 2), "ab"),
                least_unlike(one, Patterns(("a3b",), front=1, end=1), "ab")]
        self.assertEqual(told, ["ab", "aaba", None])
        told = [least_unlike(Patterns(("a1b",), exceptions=("ab",), front=1, end=1), none, "ab"),
                idle_patterns(Patterns(("a1b", "a1bc", "a2bb"), front=1, end=1), "abc")]
        self.assertEqual(told, ["aab", (1,)])

    def test_constants(self):
        self.assertEqual((module.MAX_PATTERNS, module.MAX_PATTERN_SIGNS, module.MAX_EXCEPTIONS, module.MAX_LETTERS), (100, 8, 50, 60))


class Texts(unittest.TestCase):
    def test_patterns(self):
        for text in PATTERNS:
            self.assertIs(is_pattern(text), True)
        for text in NO_PATTERNS:
            self.assertIs(is_pattern(text), False)
            self.assertRaises(InvalidPatterns, signs_of, text)
            self.assertRaises(InvalidPatterns, numbers_of, text)
        for value in ODD_VALUES:
            self.assertIs(is_pattern(value), isinstance(value, str) and value in ("a", "ab", "letter", "word", "1pt"))
            if not isinstance(value, str):
                self.assertRaises(InvalidPatterns, signs_of, value)
                self.assertRaises(InvalidPatterns, numbers_of, value)

    def test_signs_and_numbers(self):
        for text, signs, numbers in (("a", "a", (0, 0)), ("1a2b3", "ab", (1, 2, 3)), (".1a", ".a", (0, 1, 0)), ("a1.", "a.", (0, 1, 0)),
                                     (".a.", ".a.", (0, 0, 0, 0)), ("0a0", "a", (0, 0)), ("1a2b3c4d5e6f7g8h9", "abcdefgh", (1, 2, 3, 4, 5, 6, 7, 8, 9))):
            self.assertEqual((signs_of(text), numbers_of(text)), (signs, numbers))

    def test_pattern_text(self):
        for text in PATTERNS:
            told = pattern_text(signs_of(text), numbers_of(text))
            self.assertEqual(told, text.replace("0", ""))
            self.assertEqual((signs_of(told), numbers_of(told)), (signs_of(text), numbers_of(text)))
        for signs, numbers in (("", (0,)), (".", (0, 0)), ("..", (0, 0, 0)), ("a", (0,)), ("a", (0, 0, 0)), ("a", [0, 0]), ("a", (10, 0)), ("a", (-1, 0)),
                               ("a", (True, 0)), ("a", ("1", 0)), ("a", None), ("A", (0, 0)), ("a1", (0, 0, 0)), (".a", (1, 0, 0)), ("a.", (0, 0, 1)),
                               ("a.b", (0, 0, 0, 0)), ("abcdefghi", (0,) * 10), (".abcdefgh", (0,) * 10), (None, (0, 0)), (("a",), (0, 0)), ("a-b", (0,) * 4)):
            with self.subTest(signs=signs, numbers=numbers):
                self.assertRaises(InvalidPatterns, pattern_text, signs, numbers)
        for value in ODD_VALUES:
            self.assertRaises(InvalidPatterns, pattern_text, value, (1, 2, 3, 4, 5, 6, 7, 8, 9, 0, 1))
            self.assertRaises(InvalidPatterns, pattern_text, "a", value)

    def test_one_sign_changed(self):
        text = ".1a2b3c."
        for index in range(len(text)):
            for sign in "a5.-A% ":
                for changed in (text[:index] + sign + text[index:], text[:index] + sign + text[index + 1:], text[:index] + text[index + 1:]):
                    self.assertIs(is_pattern(changed), self.is_told(changed), changed)

    def is_told(self, text):
        """By the form of [8.2]: an optional full stop, numbers and letters, an optional full stop."""
        told = re.fullmatch(r"(\.?)([0-9]?(?:[a-z][0-9]?)+)(\.?)", text)
        return told is not None and len([sign for sign in text if not sign.isdigit()]) <= 8


class Made(unittest.TestCase):
    def refuse(self, *arguments, **more):
        with self.subTest(arguments=arguments, more=more), self.assertRaises(InvalidPatterns):
            Patterns(*arguments, **more)

    def test_parts(self):
        told = Patterns(("a1b", ".a2bc"), exceptions=("ab-ba", "aaa"), front=3, end=60)
        self.assertEqual((told.patterns, told.exceptions, told.front, told.end, told.longest), (("a1b", ".a2bc"), ("ab-ba", "aaa"), 3, 60, 4))
        self.assertEqual((len(told), list(told), str(told)), (2, ["a1b", ".a2bc"], "patterns 2, exceptions 2"))
        empty = Patterns(())
        self.assertEqual((empty.patterns, empty.exceptions, empty.front, empty.end, empty.longest, len(empty), list(empty)), ((), (), 2, 2, 0, 0, []))

    def test_wrong_patterns(self):
        for text in NO_PATTERNS:
            self.refuse((text,))
        for value in (["a"], "a", ("a", "a"), ("a1b", "a2b"), ("1a", "a"), ("a", None), {"a": "a"}, ("a", ["b"])):
            self.refuse(value)
        for value in ODD_VALUES:
            if value not in FINE_TUPLES:
                self.refuse(value)

    def test_wrong_exceptions(self):
        for text in ("", "-", "-a", "a-", "a--b", "A", "a b", "a1", "a.", "a" * 61, "a-" * 60 + "a", 1, None, ("a",)):
            self.refuse((), exceptions=(text,))
        for value in (["a"], "a", ("a", "a"), ("ab", "a-b"), ("a-b", "ab", "c")):
            self.refuse((), exceptions=value)
        for value in ODD_VALUES:
            if value not in FINE_TUPLES:
                self.refuse((), exceptions=value)
        self.assertEqual(Patterns((), exceptions=("-".join("a" * 60), "b")).exceptions[1], "b")

    def test_wrong_limits(self):
        for value in (*ODD_VALUES, 61, 0, -1, True):
            if type(value) is not int or not 1 <= value <= 60:
                self.refuse((), front=value)
                self.refuse((), end=value)

    def test_numbers_of_patterns_and_exceptions(self):
        texts = tuple([one + other for one in ALL for other in ALL])
        self.assertEqual(len(Patterns(texts[:100], exceptions=texts[:50])), 100)
        self.refuse(texts[:101])
        self.refuse((), exceptions=texts[:51])

    def test_in(self):
        told = Patterns(("a1b", "c"))
        self.assertEqual([value in told for value in ("a1b", "c", "ab", "a1b0", "", None, 1, ["c"], ("c",))], [True, True] + [False] * 7)

    def test_equality(self):
        base = Patterns(("a1b", "c2"), exceptions=("a-b", "cc"), front=1, end=2)
        for other in (Patterns(("c2", "a1b"), exceptions=("cc", "a-b"), front=1, end=2), Patterns(("0a1b0", "c2"), exceptions=("a-b", "cc"), front=1, end=2)):
            self.assertIs(base == other, True)
            self.assertIs(base != other, False)
        for other in (Patterns(("a1b",), exceptions=("a-b", "cc"), front=1, end=2), Patterns(("a2b", "c2"), exceptions=("a-b", "cc"), front=1, end=2),
                      Patterns(("a1b", "c2"), exceptions=("ab", "cc"), front=1, end=2), Patterns(("a1b", "c2"), exceptions=("a-b",), front=1, end=2),
                      base.with_limits(2, 2), base.with_limits(1, 1), *ODD_VALUES):
            self.assertIs(base == other, False)
            self.assertIs(base != other, True)

    def test_it_never_changes(self):
        for name in ("patterns", "exceptions", "front", "end", "longest"):
            with self.assertRaises(AttributeError):
                setattr(Patterns(()), name, ())

    def test_without_and_with_limits(self):
        told = Patterns(("a", "b", "c"), exceptions=("x-y",), front=3, end=4)
        self.assertEqual([told.without(index).patterns for index in range(3)], [("b", "c"), ("a", "c"), ("a", "b")])
        less = told.without(1)
        self.assertEqual((less.exceptions, less.front, less.end, told.patterns), (("x-y",), 3, 4, ("a", "b", "c")))
        wide = told.with_limits(1, 60)
        self.assertEqual((wide.patterns, wide.exceptions, wide.front, wide.end, told.front), (told.patterns, told.exceptions, 1, 60, 3))
        for value in (*ODD_VALUES, 3, -1, True):
            if type(value) is not int or not 0 <= value <= 2:
                with self.assertRaises(InvalidNumber) as caught:
                    told.without(value)
                self.assertIs(caught.exception.value, value)
            if type(value) is not int or not 1 <= value <= 60:
                for arguments in ((value, 0), (1, value), (value, value)):
                    with self.assertRaises(InvalidNumber) as caught:
                        told.with_limits(*arguments)
                    self.assertIs(caught.exception.value, value)


class Points(unittest.TestCase):
    def check(self, told, word):
        self.assertEqual(told.numbers(word), book_numbers(told.patterns, word))
        points = book_points(told, word)
        self.assertEqual(told.points(word), points)
        self.assertEqual(told.parted(word).replace("-", ""), word)
        self.assertEqual(tuple([gap for gap in range(len(word) + 1) if gap in points]), points)
        self.assertEqual("".join([("-" if gap in points else "") + letter for gap, letter in enumerate(word)]), told.parted(word))

    def test_against_the_book(self):
        random = Random(61)
        for _ in range(300):
            told, _ = random_lists(random, "ab", random.randint(1, 6))
            for word in words_of("ab", 5):
                self.check(told, word)
            self.check(told, "".join([random.choice("abc") for _ in range(60)]))

    def test_full_stops_at_both_ends(self):
        for pattern, word, numbers in ((".a1b.", "ab", (0, 1, 0)), (".a1b.", "aab", (0, 0, 0, 0)), (".1a", "aa", (1, 0, 0)), ("a1.", "aa", (0, 0, 1)), (".a1", "a", (0, 1))):
            self.assertEqual(Patterns((pattern,)).numbers(word), numbers)

    def test_several_that_fit_at_one_gap(self):
        for patterns, number in ((("a1b", "a2bb"), 2), (("a2bb", "a1b"), 2), (("a3b", "a2bb", "ca1b"), 3), (("1b", "a", "a2b"), 2), (("a1", "1b"), 1)):
            self.assertEqual(Patterns(patterns).numbers("cabb")[2], number)

    def test_limits(self):
        all_gaps = Patterns(("1a1",), front=1, end=1)
        for front, end in product(range(1, 5), repeat=2):
            self.assertEqual(all_gaps.with_limits(front, end).points("aaaa"), tuple(range(front, 5 - end)))
        self.assertEqual(all_gaps.with_limits(60, 1).points("a" * 60), ())
        self.assertEqual(all_gaps.points("a"), ())

    def test_exceptions(self):
        told = Patterns(("1a1",), exceptions=("aa-aa", "aaa", "a-b-c"), front=1, end=1)
        self.assertEqual([told.parted(word) for word in ("aaaa", "aaa", "abc", "aa")], ["aa-aa", "aaa", "a-b-c", "a-a"])
        self.assertEqual(told.numbers("aaa"), (1, 1, 1, 1))
        self.assertEqual([told.with_limits(2, 1).parted("abc"), told.with_limits(1, 2).parted("abc"), told.with_limits(2, 2).parted("abc")], ["ab-c", "a-bc", "abc"])

    def test_wrong_words(self):
        told = Patterns(("a1b",))
        for value in (*ODD_VALUES, "", "a" * 61, "A", "a-b", "a.", "a1", " ", "a\n"):
            if value not in ("a", "ab", "letter", "word"):
                for call in (told.numbers, told.points, told.parted):
                    self.assertRaises(InvalidOperation, call, value)
        self.assertEqual(told.points("z" * 60), ())


class Alike(unittest.TestCase):
    def test_least_words_by_search(self):
        random = Random(67)
        unlike = 0
        for _ in range(700):
            one, other = random_lists(random, "ab", random.randint(1, 3))
            letters = random.choice(("ab", "ab", "a", "b"))
            told = least_by_search(one, other, letters, most_of(one, other))
            unlike += told is not None
            self.assertEqual(least_unlike(one, other, letters), told, (one.patterns, one.exceptions, other.patterns, other.exceptions))
            self.assertEqual(least_unlike(other, one, letters), told)
            self.assertIs(are_alike(one, other, letters), told is None)
        self.assertGreater(unlike, 200)

    def test_longer_than_any_word(self):
        # Behind 60 letters and ahead of 60 others, so the word has more letters than a word can have.
        one, none = Patterns(("a1b",), front=60, end=60), Patterns((), front=60, end=60)
        self.assertEqual(least_unlike(one, none, "ab"), "a" * 60 + "b" + "a" * 59)
        self.assertEqual(least_unlike(one, none, "abc"), "a" * 60 + "b" + "a" * 59)
        self.assertEqual(least_unlike(Patterns(("b1a",), front=60, end=1), none.with_limits(60, 1), "ab"), "a" * 59 + "ba")
        self.assertIsNone(least_unlike(one, none, "a"))
        self.assertIsNone(least_unlike(one, none, "bc"))

    def test_unlike_limits(self):
        some = Patterns(("1a",), front=1, end=1)
        self.assertEqual(least_unlike(some, some.with_limits(2, 1), "a"), "aa")
        self.assertEqual(least_unlike(some, some.with_limits(1, 2), "ab"), "aa")
        self.assertEqual(least_unlike(some, some.with_limits(1, 3), "abc"), "aa")
        self.assertEqual(least_unlike(some.with_limits(1, 60), some.with_limits(1, 59), "ab"), "a" * 60)
        self.assertIsNone(least_unlike(some, some.with_limits(2, 2), "b"))

    def test_exceptions(self):
        one, both = Patterns((".a1b.",), front=1, end=1), Patterns((), exceptions=("a-b",), front=1, end=1)
        self.assertIsNone(least_unlike(one, both, "ab"))
        self.assertIsNone(least_unlike(Patterns((".a1b.",), exceptions=("ab",), front=1, end=1), Patterns((), front=1, end=1), "ab"))
        self.assertEqual(least_unlike(one, Patterns((), exceptions=("a-ba",), front=1, end=1), "ab"), "ab")
        self.assertEqual(least_unlike(Patterns((), exceptions=("b-a",), front=1, end=1), both, "ab"), "ab")
        self.assertIsNone(least_unlike(Patterns((), exceptions=("c-a",), front=1, end=1), Patterns((), front=1, end=1), "ab"))
        barred = tuple(["".join(signs) for signs in product("ab", repeat=4)] + ["a" * 5])
        self.assertEqual(least_unlike(Patterns(("a1",), exceptions=barred), Patterns((), exceptions=barred), "ab"), "aaaab")
        long = "-".join("a" * 60)
        self.assertEqual(least_unlike(Patterns((), exceptions=(long,)), Patterns(()), "ab"), "a" * 60)

    def test_long_patterns_and_all_letters(self):
        one = Patterns(("a1bcdefgh", ".z3y"), front=1, end=1)
        self.assertEqual(least_unlike(one, one.without(0), ALL), "abcdefgh")
        self.assertEqual(least_unlike(one, one.without(1), ALL), "zy")
        self.assertIsNone(least_unlike(one, one.without(1), ALL[:25]))
        self.assertEqual(least_unlike(Patterns(("1abcdefg.",), front=1, end=1), Patterns((), front=1, end=1), ALL), "aabcdefg")

    def test_many_patterns(self):
        random = Random(71)
        texts = {}
        while len(texts) < 100:
            text = random_pattern(random, ALL, 6)
            texts[signs_of(text)] = text
        told = Patterns(tuple(texts.values()), front=2, end=3)
        self.assertIs(are_alike(told, Patterns(told.patterns[::-1], front=2, end=3), ALL), True)
        for index in (0, 50, 99):
            other = told.without(index)
            word = least_unlike(told, other, ALL)
            self.assertIs(are_alike(told, other, ALL), word is None)
            if word is not None:
                self.assertNotEqual(book_points(told, word), book_points(other, word))
        idle = idle_patterns(told, ALL)
        self.assertEqual(idle, tuple([index for index in range(100) if are_alike(told, told.without(index), ALL)]))

    def test_idle_patterns_by_search(self):
        random = Random(73)
        found = 0
        for _ in range(150):
            told, _ = random_lists(random, "ab", random.randint(1, 3))
            letters = random.choice(("ab", "ab", "a"))
            idle = tuple([index for index in range(len(told))
                          if least_by_search(told, told.without(index), letters, most_of(told, told)) is None])
            found += len(idle)
            self.assertEqual(idle_patterns(told, letters), idle, (told.patterns, told.exceptions, letters))
        self.assertGreater(found, 30)

    def test_two_idle_ones_need_not_be_idle_together(self):
        told = Patterns(("a1a", "1a", "b"), front=1, end=1)
        self.assertEqual(idle_patterns(told, "a"), (0, 1, 2))
        self.assertIs(are_alike(told.without(0).without(0), told, "a"), False)
        self.assertEqual(idle_patterns(told, "ab"), (0, 2))

    def test_wrong_arguments(self):
        none = Patterns(())
        for value in ODD_VALUES:
            if not isinstance(value, Patterns):
                for call in (are_alike, least_unlike):
                    self.assertRaises(InvalidPatterns, call, value, none, "ba")
                    self.assertRaises(InvalidPatterns, call, none, value, "ba")
                self.assertRaises(InvalidPatterns, idle_patterns, value, "ba")
        for letters in (*ODD_VALUES, "", "ba", "aa", "aab", "A", "a.", "a1", "a b", ("a", "b"), ALL + "z", "abca"):
            if isinstance(letters, str) and letters in ("a", "ab"):
                continue
            with self.subTest(letters=letters):
                for call in (are_alike, least_unlike):
                    self.assertRaises(InvalidOperation, call, none, none, letters)
                self.assertRaises(InvalidOperation, idle_patterns, none, letters)
        self.assertIs(are_alike(none, none, ALL), True)


if __name__ == "__main__":
    unittest.main()
