"""[7.1] to [7.8] and all that stands below "Stage 7: fonts"."""

import unittest
from itertools import product
from random import Random

from odd_values import ODD_VALUES
from pagewright.errors import InvalidFont, InvalidOperation, TooMany, UnknownName
from pagewright.font import fonts as module
from pagewright.font.fonts import (Font, ending_paper, endless_word, is_ending_paper, letters_of, set_word, settled, width_of)

STAYS = ("none", "left", "right", "both")
PLAIN = {"a": (5, 4, 0), "b": (5, 7, 0), "x1": (1, 1, 0)}
THREE = {"a": (5, 4, 0), "b": (6, 7, 1), "x1": (1, 1, 0), "y2": (2, 2, 2)}


def join(sign, stay):
    return ("join", sign, stay)


def font_for(program, signs=THREE):
    return Font("some", signs, program)


def random_font(random, letters="ab", others=("x1", "y2"), many=5):
    signs = {sign: (index, 1, 0) for index, sign in enumerate((*letters, *others))}
    names = list(signs)
    program = {}
    for _ in range(random.randrange(many + 1)):
        entry = ("kern", random.randint(-3, 3)) if random.random() < 0.2 else join(random.choice(names), random.choice(STAYS))
        program[(random.choice(names), random.choice(names))] = entry
    return Font("rand", signs, program)


class NoEnd(Exception):
    """The walk by the book has made more steps than it may."""


def walk(font, word, most):
    """The pieces by [7.3] to [7.5], on a list of (sign, letters, whether new, kern behind), and the number of steps."""
    row = [[sign, sign, False] for sign in word]
    at, steps, program = 0, 0, font.program
    while True:
        right = at + 1
        if right < len(row) and row[right][0] == "kern":
            right += 1
        if right >= len(row):
            return tuple([("kern", one[1]) if one[0] == "kern" else ("join", one[0], one[1]) if one[2] else ("letter", one[0])
                          for one in row]), steps
        steps += 1
        if steps > most:
            raise NoEnd
        entry = program.get((row[at][0], row[right][0]))
        if entry is None:
            at = right
        elif entry[0] == "kern":
            row.insert(right, ["kern", entry[1], False])
            at = right + 1
        else:
            at = joined(row, at, right, entry)


def joined(row, at, right, entry):
    _, sign, stay = entry
    if stay == "none":
        row[at:right + 1] = [[sign, row[at][1] + row[right][1], True]]
    elif stay == "right":
        row[at] = [sign, row[at][1], True]
    elif stay == "left":
        row[right] = [sign, row[right][1], True]
    else:
        row.insert(right, [sign, "", True])
    return at


def settles(font, left, right, within=()):
    """What settles a pair by [7.6], with all pairs that it is within; None if it runs on."""
    if (left, right) in within:
        return None
    inside = (*within, (left, right))
    entry = font.program.get((left, right))
    if entry is None or entry[0] == "kern":
        return right
    _, sign, stay = entry
    if stay == "none":
        return sign
    if stay == "right":
        return settles(font, sign, right, inside)
    first = settles(font, left, sign, inside)
    if stay == "left" or first is None:
        return first
    return settles(font, first, right, inside)


def endless_by_search(font, most):
    for many in range(1, most + 1):
        for letters in product(font.letters, repeat=many):
            try:
                walk(font, "".join(letters), 300)
            except NoEnd:
                return "".join(letters)
    return None


class Examples(unittest.TestCase):
    def test_examples(self):
        some = {"a": (5, 4, 0), "f": (3, 7, 0), "i": (2, 6, 0), "fi": (5, 7, 0), "ff": (6, 7, 0), "ffi": (8, 7, 0)}
        ten = Font("ten", some, {("f", "f"): ("join", "ff", "none"), ("f", "i"): ("join", "fi", "none"),
                                 ("ff", "i"): ("join", "ffi", "none"), ("a", "f"): ("kern", -1)})
        told = [set_word(ten, "affia"), width_of(ten, set_word(ten, "affia")), str(ten), ten.letters, settled(ten, "f", "f"),
                settled(ten, "a", "f")]
        self.assertEqual(told, [(("letter", "a"), ("kern", -1), ("join", "ffi", "ffi"), ("letter", "a")), 17,
                                "font ten of 6 signs", ("a", "f", "i"), "ff", "f"])
        endless = Font("ring", PLAIN, {("a", "b"): ("join", "x1", "both"), ("a", "x1"): ("join", "b", "left")})
        self.assertEqual([settled(endless, "a", "b"), endless_word(endless), ending_paper(endless)], [None, "ab", None])
        quiet = Font("quiet", PLAIN, {("a", "b"): ("join", "x1", "right"), ("x1", "x1"): ("join", "x1", "both")})
        told = [set_word(quiet, "abb"), settled(quiet, "x1", "x1"), endless_word(quiet), letters_of(set_word(quiet, "abb"))]
        self.assertEqual(told, [(("join", "x1", "a"), ("letter", "b"), ("letter", "b")), None, None, "abb"])

    def test_constants(self):
        self.assertEqual((module.MAX_SIGNS, module.MAX_WORD, module.MAX_STEPS), (128, 60, 10000))


class Made(unittest.TestCase):
    def refuse(self, name="some", signs=PLAIN, program={}):
        with self.subTest(name=name, signs=signs, program=program), self.assertRaises(InvalidFont):
            Font(name, signs, program)

    def test_parts(self):
        signs, program = {"b": (1, 2, 3), "a": (0, 0, 0), "ab": (4, 5, 6)}, {("b", "a"): ("kern", -9), ("a", "ab"): join("b", "both")}
        font = Font("abc", signs, program)
        self.assertEqual((font.name, list(font.signs.items()), list(font.program.items()), font.letters),
                         ("abc", sorted(signs.items()), sorted(program.items()), ("a", "b")))
        self.assertEqual((list(font), len(font), str(font)), (["a", "ab", "b"], 3, "font abc of 3 signs"))
        self.assertEqual([font.measures(sign) for sign in font], [(0, 0, 0), (4, 5, 6), (1, 2, 3)])

    def test_nothing_is_shared(self):
        signs, program = dict(PLAIN), {("a", "b"): ("kern", 1)}
        font = Font("some", signs, program)
        signs["c"] = program[("b", "b")] = (1, 1, 1)
        font.signs["d"] = font.program[("b", "a")] = (1, 1, 1)
        self.assertEqual((font.signs, font.program, len(font)), (PLAIN, {("a", "b"): ("kern", 1)}, 3))

    def test_names(self):
        for name in ("a", "z" * 20, "ten"):
            self.assertEqual(Font(name, PLAIN, {}).name, name)
        for name in ("", "z" * 21, "Ten", "ten1", "te n", "\u00e4"):
            self.refuse(name=name)

    def test_signs(self):
        for sign in ("a", "abcd", "!", "`", "{}~#", "\\", "12"):
            self.assertIn(sign, Font("some", {sign: (0, 0, 0)}, {}))
        for sign in ("", "abcde", " ", "a b", "\n", "a\n", "%", "\t", 1, None, ("a",)):
            self.refuse(signs={sign: (0, 0, 0)})
        for measures in ((), (1, 2), (1, 2, 3, 4), [1, 2, 3], (-1, 0, 0), (0, -1, 0), (0, 0, -1), (True, 0, 0), (0, 0, 2 ** 30), ("1", 0, 0), None, 5):
            self.refuse(signs={"a": measures})
        self.assertEqual(Font("some", {"a": (2 ** 30 - 1,) * 3}, {}).measures("a"), (2 ** 30 - 1,) * 3)

    def test_numbers_of_signs(self):
        many = {f"{chr(97 + one)}{chr(97 + other)}": (1, 1, 1) for one in range(12) for other in range(11)}
        signs = dict(list(many.items())[:128])
        self.assertEqual(len(Font("some", signs, {})), 128)
        self.refuse(signs={})
        self.refuse(signs=dict(list(many.items())[:129]))

    def test_programs(self):
        for entry in (("kern", 0), ("kern", -5), ("kern", 2 ** 30 - 1), *[join("x1", stay) for stay in STAYS]):
            self.assertEqual(Font("some", PLAIN, {("a", "x1"): entry}).program, {("a", "x1"): entry})
        for entry in ((), ("kern",), ("kern", 2 ** 30), ("kern", None), ("kern", True), ("kern", 1, 2), ("join",), ("join", "a"), ("join", "c", "left"),
                      ("join", "a", "Left"), ("join", "a", None), ("join", "a", " "), ("join", "a", "b\n"), ("join", "a", "%"), ("letter", "x1"), ("join", None, "left"), ("join", ["a"], "left"), ("join", "a", "left", 1), ["kern", 1],
                      "kern", None, ("glue", 1), ("join", "a", ["left"])):
            self.refuse(program={("a", "b"): entry})
        for pair in ("ab", ("a",), ("a", "b", "a"), ("a", "c"), ("c", "a"), ("a", 1), (None, "a"), "a", 1, (("a",), "b")):
            self.refuse(program={pair: ("kern", 1)})

    def test_wrong_values(self):
        for value in ODD_VALUES:
            if value not in ("a", "ab", "letter", "word"):
                self.refuse(name=value)
            self.refuse(signs=value)
            if value != {}:
                self.refuse(program=value)

    def test_measures_and_in(self):
        font = font_for({})
        for value in (*ODD_VALUES, "c", "x", "x1 ", ["a"], ("a",)):
            if not isinstance(value, str) or value != "a":
                self.assertIs(value in font, False)
                with self.assertRaises(UnknownName) as caught:
                    font.measures(value)
                self.assertIs(caught.exception.asked, value)
        self.assertEqual([sign in font for sign in ("a", "x1", "b", "x")], [True, True, True, False])

    def test_equality(self):
        fonts = [Font(name, signs, program) for name in ("a", "b") for signs in (PLAIN, THREE)
                 for program in ({}, {("a", "b"): ("kern", 1)}, {("a", "b"): ("kern", 2)})]
        for (first, one), (second, other) in product(enumerate(fonts), repeat=2):
            self.assertIs(one == other, first == second)
            self.assertIs(one != other, first != second)
        self.assertEqual(Font("a", PLAIN, {}), Font("a", dict(reversed(PLAIN.items())), {}))
        for value in ODD_VALUES:
            self.assertIs(fonts[0] == value, False)

    def test_it_never_changes(self):
        for name in ("name", "signs", "program", "letters"):
            with self.assertRaises(AttributeError):
                setattr(font_for({}), name, ())


class Words(unittest.TestCase):
    def test_each_join(self):
        for stay, told in (("none", (("join", "x1", "ab"),)), ("right", (("join", "x1", "a"), ("letter", "b"))),
                           ("left", (("letter", "a"), ("join", "x1", "b"))), ("both", (("letter", "a"), ("join", "x1", ""), ("letter", "b")))):
            font = font_for({("a", "b"): join("x1", stay)})
            self.assertEqual(set_word(font, "ab"), told)
            self.assertEqual(letters_of(told), "ab")

    def test_where_the_cursor_is_then(self):
        # The new sign is looked at with the right one behind `right` and `none`, the left one again behind `left` and `both`.
        font = font_for({("a", "b"): join("x1", "right"), ("x1", "b"): ("kern", 7)})
        self.assertEqual(set_word(font, "ab"), (("join", "x1", "a"), ("kern", 7), ("letter", "b")))
        font = font_for({("a", "b"): join("x1", "left"), ("a", "x1"): ("kern", 7)})
        self.assertEqual(set_word(font, "ab"), (("letter", "a"), ("kern", 7), ("join", "x1", "b")))
        font = font_for({("a", "b"): join("x1", "both"), ("a", "x1"): ("kern", 7), ("x1", "b"): ("kern", 8)})
        self.assertEqual(set_word(font, "ab"), (("letter", "a"), ("kern", 7), ("join", "x1", ""), ("kern", 8), ("letter", "b")))
        font = font_for({("a", "b"): join("x1", "none"), ("x1", "a"): ("kern", 7)})
        self.assertEqual(set_word(font, "aba"), (("join", "x1", "ab"), ("kern", 7), ("letter", "a")))

    def test_against_the_walk(self):
        random = Random(47)
        endless = 0
        for _ in range(500):
            font = random_font(random, many=7)
            for word in ("a", "ab", "ba", "abba", "bbaab", "aaabbb"):
                try:
                    told = walk(font, word, 2000)
                except NoEnd:
                    endless += 1
                    self.assertRaises((InvalidOperation, TooMany), set_word, font, word)
                else:
                    self.check(font, word, told[0])
        self.assertGreater(endless, 100)

    def check(self, font, word, told):
        self.assertEqual(set_word(font, word), told, (font.program, word))
        self.assertEqual(letters_of(told), word)
        sizes = [piece[1] if piece[0] == "kern" else font.measures(piece[1])[0] for piece in told]
        self.assertEqual(width_of(font, told), sum(sizes))

    def test_many_steps(self):
        signs = {"a": (1, 1, 1), "b": (1, 1, 1), **{f"s{number}": (1, 1, 1) for number in range(20)}}
        program = {("a", "b"): join("s0", "both")}
        for number in range(12):
            program[("a", f"s{number}")] = join(f"s{number + 1}", "both")
            program[(f"s{number + 1}", f"s{number}")] = join(f"s{number + 1}", "none")
        for most in range(1, 13):
            font = Font("some", signs, {pair: entry for pair, entry in program.items() if int("0" + pair[1][1:]) < most or pair[1] == "b"})
            self.assertEqual(set_word(font, "ab"), walk(font, "ab", 10 ** 6)[0])

    def test_the_limit_of_the_steps(self):
        for kept, told in ((9999, None), (10000, None), (10001, 10000), (10002, 10000), (16000, 10000)):
            font, word = self.font_of_steps(kept)
            self.assertEqual(walk(font, word, 10 ** 6)[1], kept)
            self.assertIsNone(endless_word(font))
            if told is None:
                self.assertEqual(set_word(font, word), walk(font, word, 10 ** 6)[0])
            else:
                with self.assertRaises(TooMany) as caught:
                    set_word(font, word)
                self.assertEqual(caught.exception.limit, told)

    def font_of_steps(self, many):
        """A font and a word whose walk has so many steps.

        Along a row of pairs the right sign changes; at its end the left one does, and the next row is gone along the
        other way: no pair comes twice. The last pair has no entry.
        """
        names = [f"{chr(97 + one)}{chr(97 + other)}" for one in range(6) for other in range(21)]
        signs = {sign: (1, 1, 1) for sign in ("!", "?", *names)}
        lefts, rights = ["!", *names], ["?", *names]
        program, place, step = {}, 0, 1
        pair = ("!", "?")
        for _ in range(many - 1):
            if 0 <= place + step < len(rights):
                place += step
                following = (pair[0], rights[place])
                program[pair] = join(following[1], "left")
            else:
                step = -step
                following = (lefts[lefts.index(pair[0]) + 1], pair[1])
                program[pair] = join(following[0], "right")
            pair = following
        return Font("long", signs, program), "!?"

    def test_words_that_do_not_end(self):
        ring = Font("ring", PLAIN, {("a", "b"): join("x1", "both"), ("a", "x1"): join("b", "left")})
        for word in ("ab", "bab", "aab", "abb" * 20):
            with self.assertRaises(InvalidOperation):
                set_word(ring, word)
        self.assertEqual(set_word(ring, "bbaa"), tuple([("letter", sign) for sign in "bbaa"]))
        for sign in "ab":
            growing = Font("grow", PLAIN, {("a", "b"): join(sign, "both")})
            self.assertRaises(InvalidOperation, set_word, growing, "ab")

    def test_wrong_words(self):
        font = font_for({})
        for value in ODD_VALUES:
            if not isinstance(value, Font):
                self.assertRaises(InvalidFont, set_word, value, None)
            if not isinstance(value, str) or not 1 <= len(value) <= 60:
                self.assertRaises(InvalidOperation, set_word, font, value)
        self.assertRaises(InvalidOperation, set_word, font, "a" * 61)
        self.assertRaises(InvalidOperation, set_word, font, "")
        self.assertEqual(len(set_word(font, "a" * 60)), 60)
        for word, character in (("abc", "c"), ("a b", " "), ("xa", "x"), ("ab1", "1"), ("Zc", "Z"), ("a%", "%"), ("\n", "\n")):
            with self.assertRaises(UnknownName) as caught:
                set_word(font, word)
            self.assertEqual(caught.exception.asked, character)


class Pieces(unittest.TestCase):
    def test_letters_and_widths(self):
        font = font_for({})
        pieces = (("letter", "a"), ("kern", -3), ("join", "x1", "fgh"), ("join", "y2", ""), ("letter", "b"))
        self.assertEqual((letters_of(pieces), width_of(font, pieces)), ("afghb", 5 - 3 + 1 + 2 + 6))
        self.assertEqual((letters_of(()), width_of(font, ())), ("", 0))
        self.assertEqual(letters_of((("join", "zz", "q"), ("letter", "q"))), "qq")

    def test_wrong_pieces(self):
        font = font_for({})
        for piece in ((), ("letter",), ("letter", "a", "b"), ("letter", ""), ("letter", " "), ("letter", 1), ("join", "a"), ("join", "", "a"), ("join", "abcde", ""),
                      ("join", "a", None), ("join", "a", " "), ("join", "a", "b\n"), ("join", "a", "%"), ("letter", "x1"), ("join", "a", "b", "c"), ("kern",), ("kern", None), ("kern", True), ("kern", 2 ** 30), ("kern", 1, 1), ("glue", 1), ["letter", "a"],
                      "letter", None, (["letter"], "a")):
            with self.subTest(piece):
                self.assertRaises(InvalidOperation, letters_of, (piece,))
                self.assertRaises(InvalidOperation, width_of, font, (("letter", "a"), piece))
        for value in ODD_VALUES:
            if value != ():
                self.assertRaises(InvalidOperation, letters_of, value)
                self.assertRaises(InvalidOperation, width_of, font, value)
            if not isinstance(value, Font):
                self.assertRaises(InvalidFont, width_of, value, None)
        for piece in (("letter", "c"), ("join", "zz", "a")):
            self.assertRaises(InvalidOperation, width_of, font, (piece,))


class Settled(unittest.TestCase):
    def test_against_the_book(self):
        random = Random(53)
        for _ in range(700):
            font = random_font(random, many=9)
            for left, right in product(font, repeat=2):
                self.assertEqual(settled(font, left, right), settles(font, left, right), (font.program, left, right))

    def test_long_chains(self):
        signs = {"a": (1, 1, 1), "b": (1, 1, 1), **{f"s{number}": (1, 1, 1) for number in range(126)}}
        program = {(f"s{number}", "b"): join(f"s{number + 1}", "right") for number in range(125)}
        program[("a", "b")] = join("s0", "right")
        font = Font("some", signs, program)
        self.assertEqual(settled(font, "a", "b"), "b")
        self.assertEqual(set_word(font, "ab"), (("join", "s125", "a"), ("letter", "b")))
        self.assertIsNone(settled(Font("some", signs, {**program, ("s125", "b"): join("s3", "right")}), "a", "b"))
        font, _ = Words().font_of_steps(15000)
        self.assertIsNotNone(settled(font, "!", "?"))

    def test_unknown_signs(self):
        font = font_for({})
        for value in (*ODD_VALUES, "c", ["a"]):
            if value == "a":
                continue
            for arguments in ((value, None), ("a", value)):
                with self.assertRaises(UnknownName) as caught:
                    settled(font, *arguments)
                self.assertIs(caught.exception.asked, value)
            if not isinstance(value, Font):
                for call in (lambda: settled(value, None, None), lambda: endless_word(value), lambda: ending_paper(value),
                             lambda: is_ending_paper(value, {})):
                    self.assertRaises(InvalidFont, call)


class Ends(unittest.TestCase):
    def test_endless_words_by_search(self):
        random = Random(59)
        found = 0
        for _ in range(500):
            font = random_font(random, many=8)
            told = endless_word(font)
            if told is None:
                self.assertIsNone(endless_by_search(font, 4), font.program)
            else:
                found += 1
                self.assertEqual(told, endless_by_search(font, len(told)), font.program)
            self.check_paper(font, told is None)
        self.assertGreater(found, 50)

    def check_paper(self, font, ends):
        paper = ending_paper(font)
        self.assertIs(paper is not None, ends)
        if ends:
            self.assertEqual(list(paper), sorted(paper))
            self.assertIs(is_ending_paper(font, paper), True)
            self.assertTrue(all([settles(font, *pair) == told[0] for pair, told in paper.items()]))

    def test_long_endless_words(self):
        signs = {"a": (1, 1, 1), "b": (1, 1, 1), **{f"s{number}": (1, 1, 1) for number in range(126)}}
        program = {(f"s{number}", "b"): join(f"s{number + 1}", "none") for number in range(125)}
        program.update({("a", "b"): join("s0", "none"), ("s125", "b"): join("b", "both")})
        self.assertEqual(endless_word(Font("some", signs, program)), "a" + "b" * 127)
        program[("s125", "a")] = join("a", "left")
        self.assertEqual(endless_word(Font("some", signs, program)), "a" + "b" * 126 + "a")
        program[("s125", "a")] = program[("s125", "b")] = ("kern", 1)
        self.assertIsNone(endless_word(Font("some", signs, program)))

    def test_the_first_one_of_the_shortest(self):
        program = {("b", "a"): join("a", "both"), ("b", "b"): join("b", "left")}
        self.assertEqual(endless_word(font_for(program)), "ba" if settles(font_for(program), "b", "a") is None else "bb")
        ring = {("x1", "a"): join("a", "left"), ("a", "a"): join("x1", "none"), ("b", "b"): join("x1", "none")}
        self.assertEqual(endless_word(font_for(ring)), "aaa")
        self.assertEqual(endless_word(font_for({("x1", "a"): join("a", "left"), ("b", "b"): join("x1", "none")})), "bba")

    def test_a_font_without_letters(self):
        font = Font("none", {"ab": (1, 1, 1)}, {("ab", "ab"): join("ab", "both")})
        self.assertEqual((endless_word(font), ending_paper(font), is_ending_paper(font, {})), (None, {}, True))


class Papers(unittest.TestCase):
    FONT = Font("some", THREE, {("a", "b"): join("x1", "right"), ("x1", "b"): join("y2", "both"), ("x1", "y2"): join("y2", "none"), ("b", "a"): ("kern", 3),
                                ("y2", "a"): join("b", "left"), ("x1", "x1"): join("x1", "both")})

    def test_papers_made_otherwise(self):
        paper = ending_paper(self.FONT)
        self.assertIs(is_ending_paper(self.FONT, paper), True)
        self.assertIs(is_ending_paper(self.FONT, dict(reversed(paper.items()))), True)
        self.assertIs(is_ending_paper(self.FONT, {pair: (sign, 7 * rank + 10 ** 50) for pair, (sign, rank) in paper.items()}), True)
        self.assertIs(is_ending_paper(self.FONT, {**paper, ("y2", "y2"): ("y2", 0)}), True)
        free = Font("free", PLAIN, {})
        self.assertIs(is_ending_paper(free, {pair: (pair[1], 0) for pair in product("ab", repeat=2)}), True)
        least = {pair: (settles(self.FONT, *pair), self.rank(pair)) for pair in paper}
        self.assertIs(is_ending_paper(self.FONT, least), True)

    def rank(self, pair):
        """The least rank of a pair: how deep its inner pairs are."""
        return max([self.rank(inner) + 1 for inner in self.inner(pair)], default=0)

    def inner(self, pair):
        entry = self.FONT.program.get(pair)
        if entry is None or entry[0] == "kern" or entry[2] == "none":
            return []
        if entry[2] == "right":
            return [(entry[1], pair[1])]
        first = (pair[0], entry[1])
        return [first] if entry[2] == "left" else [first, (settles(self.FONT, *first), pair[1])]

    def test_one_thing_changed(self):
        paper = ending_paper(self.FONT)
        needed = {pair: (settles(self.FONT, *pair), self.rank(pair)) for pair in paper}
        for pair, (sign, rank) in needed.items():
            less = {key: value for key, value in needed.items() if key != pair}
            self.assertIs(is_ending_paper(self.FONT, less), False)
            for other in ("a", "b", "x1", "y2"):
                if other != sign:
                    self.assertIs(is_ending_paper(self.FONT, {**needed, pair: (other, rank)}), False)
            for value in ((sign,), (sign, rank, rank), [sign, rank], (sign, -1), (sign, True), (sign, False), (sign, None), (sign, str(rank)), (None, rank), ([sign], rank), ("q", rank),
                          (sign, 10 ** 60), sign, None, ()):
                self.assertIs(is_ending_paper(self.FONT, {**needed, pair: value}), False)
            if self.inner(pair):
                self.assertIs(is_ending_paper(self.FONT, {**needed, pair: (sign, rank - 1)}), False)

    def test_wrong_keys(self):
        paper = ending_paper(self.FONT)
        for key in ("ab", ("a",), ("a", "q"), ("a", "b", "a"), 1, None, (1, 2), ("a", None), ("x1", "x1")):
            self.assertIs(is_ending_paper(self.FONT, {**paper, key: ("a", 0)}), False)

    def test_pairs_in_a_ring(self):
        ring = Font("ring", PLAIN, {("a", "b"): join("x1", "right"), ("x1", "b"): join("a", "right")})
        base = {pair: (pair[1], 0) for pair in product(("a", "b", "x1"), "ab")}
        for first, second in product(range(3), repeat=2):
            self.assertIs(is_ending_paper(ring, {**base, ("a", "b"): ("b", first), ("x1", "b"): ("b", second)}), False)

    def test_odd_values(self):
        for value in ODD_VALUES:
            self.assertIs(is_ending_paper(self.FONT, value), False)
        ring = Font("ring", PLAIN, {("a", "b"): join("b", "both")})
        for value in (*ODD_VALUES, ending_paper(self.FONT)):
            self.assertIs(is_ending_paper(ring, value), False)


if __name__ == "__main__":
    unittest.main()
