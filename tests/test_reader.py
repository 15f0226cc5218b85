"""[2.2] to [2.5] and all that stands below "Stage 2: reading text"."""

import unittest
from itertools import product
from random import Random

import plain_reader
from odd_values import ODD_VALUES
from plain_reader import PlainReader
from pagewright.errors import InvalidOperation, InvalidSort, ParseError, TooMany
from pagewright.text.reader import Reader, placed_tokens, tokens_of
from pagewright.text.rows import first_unreadable, is_readable, text_of
from pagewright.text.sorts import SORTS, Sorts

ALL_SIGNS = "\n" + "".join([chr(code) for code in range(32, 127) if code != 37])
BLANK, PAR = ("sign", " ", "blank"), ("word", "par")
TABLES = (
    {}, {" ": "letter"}, {" ": "other"}, {" ": "escape"}, {" ": "ignored"}, {" ": "comment"}, {" ": "end"},
    {"\n": "blank"}, {"\n": "letter"}, {"\n": "other"}, {"\n": "escape"}, {"\n": "ignored"}, {"\n": "comment"},
    {"\n": "active"}, {"\n": "open"}, {"\\": "other"}, {"\\": "comment"}, {"\\": "letter"}, {"`": "other"},
    {"`": "blank"}, {"`": "escape"}, {"`": "ignored"}, {"`": "end"}, {"a": "escape"}, {"a": "blank"}, {"!": "letter"},
    {"a": "ignored", "!": "blank"}, {"\n": "letter", " ": "letter"}, {"\n": "escape", "\\": "other"},
)
TEXTS = (
    "", "a", "a\n", "ab  c\n", "  a", "a   \n  b", "\n", "\n\n", " \n", "a\n\nb", "`x\ny", "a`x", "\\ab c", "\\ab\n", "\\!a\\",
    "\\ \\a \n", "\\", "\\\n", "\\a1b\\~", "~#{}", "a  ", "\\a  \\b", "! !a\n!", "a `b\n \\a`\n\n", "\\ ", "\\a\n\\b", " `\n",
)


def letters(text):
    return tuple([("sign", sign, "letter") for sign in text])


def taken(reader):
    """All that comes."""
    found = []
    came = reader.take()
    while came is not None:
        found.append(came)
        came = reader.take()
    return found


def read(pieces, sorts=None, are_taken_at_once=False):
    """What comes of pieces, taken behind each of them, or at the end."""
    reader, found = Reader(sorts), []
    for piece in pieces:
        reader.feed(piece)
        if are_taken_at_once:
            found.extend(taken(reader))
    reader.finish()
    return tuple(found + taken(reader))


class Examples(unittest.TestCase):
    def test_tokens(self):
        self.assertEqual([token[1] for token in tokens_of("a  b \n\n\\hi  x`y\n")],
                         ["a", " ", "b", " ", "par", "hi", "x"])
        self.assertEqual(placed_tokens("\n a{"), ((PAR, (0, 0)), (("sign", "a", "letter"), (1, 1)),
                                                  (("sign", "{", "open"), (1, 2)), (BLANK, (1, 3))))
        self.assertEqual([tokens_of("\\ \\!\\"), tokens_of("x", Sorts({"\n": "other"})),
                          tokens_of("a|b", Sorts({"|": "end"}))],
                         [(("word", " "), ("word", "!"), ("word", "\n")),
                          (("sign", "x", "letter"), ("sign", "\n", "other")), (("sign", "a", "letter"), BLANK)])

    def test_pieces(self):
        reader = Reader()
        told = [reader.feed("\\ab"), reader.take(), reader.feed("b~\nc"), reader.take(), reader.state,
                reader.change("~", "other"), reader.take(), reader.take(), reader.take(), reader.is_at_rest, reader.line]
        self.assertEqual(told, [None, None, None, (("word", "abb"), (0, 0)), "skip", None,
                                (("sign", "~", "other"), (0, 4)), (BLANK, (0, 5)), None, False, 1])
        told = [reader.finish(), reader.take(), reader.take(), reader.take(), reader.is_at_rest]
        self.assertEqual(told, [None, (("sign", "c", "letter"), (1, 0)), (BLANK, (1, 1)), None, True])

    def test_those_of_rows(self):
        hi, x, begin, end = ("word", "hi"), ("sign", "x", "letter"), ("sign", "{", "open"), ("sign", "}", "close")
        row = (hi, x, begin, BLANK, end)
        self.assertEqual([tokens_of(text_of(row)) == row, tokens_of(text_of(()))], [True, ()])
        self.assertEqual(tokens_of("a"), (("sign", "a", "letter"), BLANK))


class Reading(unittest.TestCase):
    def test_against_the_plain_reader(self):
        for text, changes in product(TEXTS, TABLES):
            with self.subTest(text=text, changes=changes):
                table = Sorts(changes)
                self.assertEqual(tokens_of(text, table), plain_reader.tokens_of(text, table))
                self.check_places(text, table)

    def check_places(self, text, table):
        plain = PlainReader({sign: table[sign] for sign in ALL_SIGNS})
        plain.text, plain.is_finished = text, True
        self.assertEqual(placed_tokens(text, table), tuple(taken(plain)))

    def test_random_texts(self):
        random = Random(11)
        for _ in range(1500):
            text = "".join([random.choice("ab!~#{}`\\\\  \n\n") for _ in range(random.randrange(25))])
            table = Sorts({random.choice("ab!~#{}`\\ \n"): random.choice(SORTS) for _ in range(random.randrange(4))})
            self.assertEqual(tokens_of(text, table), plain_reader.tokens_of(text, table))
            self.check_places(text, table)
            self.assertIs(is_readable(tokens_of(text, table), table), True)
            self.assertIsNone(first_unreadable(tokens_of(text, table), table))

    def test_each_sort_of_a_sign(self):
        for sort in SORTS:
            told = tokens_of("a?b", Sorts({"?": sort}))
            middle = (("sign", "?", sort),)
            behind = letters("b") + (BLANK,)
            self.assertEqual(told, letters("a") + {
                "escape": (("word", "b"),), "end": (BLANK,), "ignored": behind, "blank": (BLANK,) + behind, "comment": (),
            }.get(sort, middle + behind))

    def test_words(self):
        sixty = "x" * 60
        for text, told in (("\\ab1", (("word", "ab"), ("sign", "1", "other"), BLANK)), ("\\1a", (("word", "1"),) + letters("a") + (BLANK,)),
                           ("\\" + sixty + "yz", (("word", sixty),) + letters("yz") + (BLANK,)),
                           ("\\" + sixty, (("word", sixty),)), ("\\ab  c`", (("word", "ab"),) + letters("c")),
                           ("\\!  c`", (("word", "!"), BLANK) + letters("c")), ("\\  c`", (("word", " "),) + letters("c")),
                           ("\\a\n\nb`", (("word", "a"), PAR) + letters("b")), ("\\\n\n", (("word", "\n"), PAR)),
                           ("\\par", (PAR,)), ("\\\\", (("word", "\\"), BLANK)), ("\\`a", (("word", "`"),) + letters("a") + (BLANK,))):
            with self.subTest(text):
                self.assertEqual(tokens_of(text), told)

    def test_the_newline_in_names(self):
        letter = Sorts({"\n": "letter"})
        self.assertEqual(tokens_of("\\ab\ncd", letter), (("word", "ab\n"),) + letters("cd") + (("sign", "\n", "letter"),))
        self.assertEqual(tokens_of("\\\n\\a1", letter), (("word", "\n"), ("word", "a"), ("sign", "1", "other"), ("sign", "\n", "letter")))
        self.assertEqual(tokens_of("\\" + "x" * 60 + "\n", letter), (("word", "x" * 60), ("sign", "\n", "letter")))
        escape = Sorts({"\n": "escape"})
        self.assertEqual(placed_tokens("a\nb", escape), ((("sign", "a", "letter"), (0, 0)), (("word", "\n"), (0, 1)),
                                                         (("sign", "b", "letter"), (1, 0)), (("word", "\n"), (1, 1))))
        self.assertEqual(tokens_of("\\\n", escape), (("word", "\n"),))

    def test_blanks_at_the_beginning_leave_the_line_new(self):
        self.assertEqual(tokens_of("  ~\n", Sorts({"~": "ignored"})), (PAR,))
        self.assertEqual(tokens_of("??\n", Sorts({"?": "blank"})), (PAR,))
        self.assertEqual(tokens_of("a??\n", Sorts({"?": "blank"})), letters("a") + (BLANK,))

    def test_lines(self):
        for text, told in (("", ()), ("\n", (PAR,)), (" ", (PAR,)), ("   \n   ", (PAR, PAR)), ("a\n", letters("a") + (BLANK,)),
                           ("a", letters("a") + (BLANK,)), ("a  \n", letters("a") + (BLANK,)), ("a  ", letters("a") + (BLANK,)),
                           ("`\n", ()), ("a`\n\n", letters("a") + (PAR,)), ("a\n`\n", letters("a") + (BLANK,))):
            with self.subTest(text):
                self.assertEqual(tokens_of(text), told)
        other = Sorts({" ": "other", "`": "other"})
        self.assertEqual(tokens_of("a b  \n", other), (("sign", "a", "letter"), ("sign", " ", "other"), ("sign", "b", "letter"), BLANK))


class Pieces(unittest.TestCase):
    def test_cut_at_every_place(self):
        for text, changes in product(TEXTS, TABLES):
            table = Sorts(changes)
            told = placed_tokens(text, table)
            ways = [list(text), [text], ["", text, ""]]
            ways.extend([[text[:cut], text[cut:]] for cut in range(len(text) + 1)])
            for pieces in ways:
                self.assertEqual(read(pieces, table), told)
                self.assertEqual(read(pieces, table, True), told)

    def test_only_whole_lines_are_read(self):
        reader = Reader()
        reader.feed("ab")
        self.assertEqual((reader.take(), reader.is_at_rest), (None, False))
        reader.feed("\ncd")
        self.assertEqual([came[0] for came in taken(reader)], [*letters("ab"), BLANK])
        reader.feed("   ")
        self.assertEqual((reader.take(), reader.line), (None, 1))
        reader.finish()
        self.assertEqual(taken(reader), [(("sign", "c", "letter"), (1, 0)), (("sign", "d", "letter"), (1, 1)), (BLANK, (1, 2))])

    def test_at_rest(self):
        reader = Reader()
        self.assertIs(reader.is_at_rest, True)
        for piece in (" ", "a", "\n"):
            reader.feed(piece)
            self.assertIs(reader.is_at_rest, False)
        reader.take()
        self.assertIs(reader.is_at_rest, False)
        reader.take()
        self.assertIs(reader.is_at_rest, True)
        reader.feed("`x\n")
        self.assertIs(reader.is_at_rest, False)
        self.assertIsNone(reader.take())
        self.assertIs(reader.is_at_rest, True)

    def test_behind_finish(self):
        for piece in ("", "a"):
            reader = Reader()
            self.assertIs(reader.is_finished, False)
            self.assertIsNone(reader.finish())
            self.assertIs(reader.is_finished, True)
            self.assertRaises(InvalidOperation, reader.feed, piece)
            self.assertRaises(InvalidOperation, reader.finish)
            self.assertRaises(ParseError, reader.feed, "a%")
            self.assertEqual((reader.take(), reader.is_at_rest), (None, True))
            self.assertRaises(InvalidOperation, reader.feed, "a" * 20001)

    def test_states(self):
        reader = Reader()
        reader.feed("a \\b \\! \n {")
        states = [reader.state]
        while reader.take() is not None:
            states.append(reader.state)
        self.assertEqual(states, ["new", "mid", "skip", "skip", "mid", "new"])
        reader.finish()
        states = []
        while reader.take() is not None:
            states.append((reader.state, reader.line))
        self.assertEqual(states, [("mid", 1), ("new", 2)])


class Steps(unittest.TestCase):
    """Readers beside plain readers, in whatever order they are asked for something."""

    def test_random_steps(self):
        random = Random(23)
        for _ in range(600):
            reader, plain = Reader(), PlainReader({sign: Sorts()[sign] for sign in ALL_SIGNS})
            for _ in range(random.randrange(1, 25)):
                self.step(random, reader, plain)
                self.compare(reader, plain)
                if random.random() < 0.2:
                    twin = reader.twin()
                    self.assertEqual(twin, reader)
                    reader.feed("z\n") if not reader.is_finished else reader.change("q", "end")
                    self.assertNotEqual(twin, reader)
                    reader = twin
                    self.compare(reader, plain)

    def step(self, random, reader, plain):
        what = random.randrange(8)
        if what < 4:
            self.assertEqual(reader.take(), plain.take())
        elif what < 6 and not plain.is_finished:
            piece = "".join([random.choice("ab!`\\  \n") for _ in range(random.randrange(6))])
            plain.text += piece
            self.assertIsNone(reader.feed(piece))
        elif what == 6:
            sign, sort = random.choice("ab!`\\ \n"), random.choice(SORTS)
            plain.sorts[sign] = sort
            self.assertIsNone(reader.change(sign, sort))
        elif what == 7 and random.random() < 0.4 and not plain.is_finished:
            plain.is_finished = True
            self.assertIsNone(reader.finish())

    def compare(self, reader, plain):
        self.assertEqual((reader.state, reader.line, reader.is_finished), (plain.state, plain.line, plain.is_finished))
        self.assertIs(reader.is_at_rest, plain.is_at_rest())
        self.assertEqual({sign: reader.sorts[sign] for sign in ALL_SIGNS}, plain.sorts)
        self.assertEqual(str(reader), f"reader at line {plain.line}")

    def test_equality(self):
        random = Random(29)
        pairs = []
        for _ in range(250):
            reader, plain = Reader(), PlainReader({sign: Sorts()[sign] for sign in ALL_SIGNS})
            text = random.choice(("a\nb", "a \n", "a\n ", "a  ", "ab", "a`b\n", "a`\n "))
            cut = random.randrange(len(text) + 1)
            for piece in (text[:cut], text[cut:]):
                plain.text += piece
                reader.feed(piece)
                for _ in range(random.randrange(3)):
                    self.assertEqual(reader.take(), plain.take())
            if random.random() < 0.5:
                plain.is_finished = True
                reader.finish()
                for _ in range(random.randrange(3)):
                    self.assertEqual(reader.take(), plain.take())
            pairs.append((reader, plain.key()))
        for (one, key), (other, told) in product(pairs, repeat=2):
            self.assertIs(one == other, key == told)
            self.assertIs(one != other, key != told)

    def test_spaces_at_the_ends_of_lines(self):
        one, other = Reader(), Reader()
        one.feed("a  \nb \n")
        other.feed("a \nb  \n")
        self.assertEqual(one, other)
        one, other = Reader(), Reader()
        one.feed("a  \nb")
        other.feed("a\nb  ")
        self.assertNotEqual(one, other)
        one.finish()
        other.finish()
        self.assertEqual(one, other)

    def test_equality_with_other_kinds(self):
        for value in ODD_VALUES:
            if not isinstance(value, Reader):
                self.assertIs(Reader() == value, False)
                self.assertIs(Reader() != value, True)
        self.assertEqual(Reader(), Reader(Sorts()))
        self.assertNotEqual(Reader(), Reader(Sorts({"a": "other"})))

    def test_sorts_changed_behind_a_token(self):
        for pieces in (["a~b~\n~"], list("a~b~\n~"), ["a~b", "~\n", "~"]):
            reader = Reader()
            for piece in pieces:
                reader.feed(piece)
            reader.finish()
            found = []
            for sort in ("letter", "comment", "other", "blank", "end"):
                found.append(reader.take())
                reader.change("~", sort)
            self.assertEqual(found, [(("sign", "a", "letter"), (0, 0)), (("sign", "~", "letter"), (0, 1)),
                                     (("sign", "b", "letter"), (0, 2)), (("sign", "~", "other"), (0, 3)), (BLANK, (0, 4))])
            self.assertEqual(reader.take(), (PAR, (1, 0)))
            self.assertIsNone(reader.take())

    def test_a_table_is_not_shared(self):
        table = Sorts({"a": "other"})
        reader = Reader(table)
        reader.change("a", "letter")
        self.assertEqual((table["a"], reader.sorts["a"], reader.sorts), ("other", "letter", Sorts()))

    def test_wrong_changes(self):
        reader = Reader()
        for sign, sort in (("ab", "letter"), ("", "letter"), (None, "letter"), ("%", "other"), ("a", "lett"), ("a", None),
                           ("a", ["letter"]), (["a"], "letter")):
            self.assertRaises(InvalidSort, reader.change, sign, sort)
        self.assertEqual(reader, Reader())


class Limits(unittest.TestCase):
    def test_signs(self):
        reader = Reader()
        reader.feed("`" * 19999)
        kept = reader.twin()
        with self.assertRaises(TooMany) as caught:
            reader.feed("aa")
        self.assertEqual(caught.exception.limit, 20000)
        self.assertEqual(reader, kept)
        reader.feed("a")
        self.assertRaises(TooMany, reader.feed, "a")
        self.assertIsNone(reader.feed(""))

    def test_texts(self):
        for call in (tokens_of, placed_tokens):
            self.assertEqual(call("`" * 20000), ())
            for text, limit in (("`" * 20001, 20000), ("a" * 5000, 5000), ("a" * 20001, 20000)):
                with self.assertRaises(TooMany) as caught:
                    call(text)
                self.assertEqual(caught.exception.limit, limit)
            self.assertEqual(len(call("a" * 4999)), 5000)
            self.assertEqual(len(call("a" * 5000 + "`")), 5000)
        self.assertEqual(len(tokens_of("\n" * 5000)), 5000)

    def test_long_texts_sign_by_sign(self):
        text = "ab c\n" * 4000
        self.assertEqual(len(read(list(text))), 20000)
        self.assertEqual(len(read(list(text), None, True)), 20000)

    def test_wrong_pieces(self):
        for text, index in (("%", 0), ("ab%", 2), ("a\tb", 1), ("\r", 0), ("\x7f", 0), ("a" * 30000 + "%", 30000), ("\u00e4", 0)):
            reader = Reader()
            for call in (reader.feed, tokens_of, placed_tokens):
                with self.assertRaises(ParseError) as caught:
                    call(text)
                self.assertEqual(caught.exception.number, index)
            self.assertEqual(reader, Reader())

    def test_no_strings(self):
        reader = Reader()
        for value in ODD_VALUES:
            if not isinstance(value, str):
                for call in (reader.feed, tokens_of, placed_tokens):
                    with self.assertRaises(ParseError) as caught:
                        call(value)
                    self.assertIsNone(caught.exception.number)

    def test_wrong_tables(self):
        for value in ODD_VALUES:
            if value is not None and not isinstance(value, Sorts):
                self.assertRaises(InvalidSort, Reader, value)
                for call in (tokens_of, placed_tokens):
                    self.assertRaises(InvalidSort, call, "a", value)
                    self.assertRaises(ParseError, call, "%", value)
                    self.assertRaises(InvalidSort, call, "a" * 20001, value)

    def test_it_is_not_iterated_over(self):
        self.assertRaises(TypeError, iter, Reader())


if __name__ == "__main__":
    unittest.main()
