"""[3.1] to [3.3]: which rows a text begins with or has, checked against a reader by [2.2] and [2.3]."""

import unittest
from itertools import product
from random import Random

from odd_values import odd_values_but
from plain_reader import tokens_of
from pagewright.errors import InvalidOperation, InvalidRow, InvalidSort, TooMany
from pagewright.text.rows import first_unreadable, is_readable, text_of
from pagewright.text.sorts import SORTS, Sorts, is_token

X, BLANK, HI, PAR = ("sign", "x", "letter"), ("sign", " ", "blank"), ("word", "hi"), ("word", "par")
OPEN, CLOSE = ("sign", "{", "open"), ("sign", "}", "close")
ALL_SIGNS = "\n" + "".join([chr(code) for code in range(32, 127) if code != 37])
BARE = {"`": "other"}


def other(sign):
    return ("sign", sign, "other")


def letter(sign):
    return ("sign", sign, "letter")


def word(name):
    return ("word", name)


def padding(signs, letter_sign):
    """Words of letters for which, with their escape signs, just so many signs must be written."""
    names = []
    while signs > 61:
        taken = 60 if signs == 62 else 61
        names.append(letter_sign * (taken - 1))
        signs -= taken
    names.append(letter_sign * (signs - 1))
    return tuple([word(name) for name in names])


class Checks(unittest.TestCase):
    """Calls that are the same for all tables."""

    def has(self, row, changes, least=None):
        """Some text has the row, and the one that is told does; each one has at least so many signs."""
        with self.subTest(row=row[:9], changes=changes):
            table = Sorts(changes)
            self.assertIs(is_readable(row, table), True)
            self.assertIsNone(first_unreadable(row, table))
            self.check_text(row, table)
            if least is not None and table["\\"] == "escape":
                self.check_least(row, table, least, "x")

    def check_text(self, row, table):
        text = text_of(row, table)
        self.assertEqual(tokens_of(text, table), row)
        self.assertTrue(set(text) <= set(ALL_SIGNS))
        self.assertLessEqual(len(text), 20000)

    def check_least(self, row, table, least, letter_sign):
        """The least number of signs of a text of the row shows where just 20000 signs, or one more, are needed.

        The row begins a line here, behind words for which it is known how many signs must be written.
        """
        rest = 20000 - least - (1 if table["\n"] == "escape" else 2)
        self.check_text(padding(rest, letter_sign) + (word("\n"),) + row, table)
        longer = padding(rest + 1, letter_sign) + (word("\n"),) + row
        self.assertIs(is_readable(longer, table), True)
        with self.assertRaises(TooMany):
            text_of(longer, table)

    def lacks(self, row, changes, index):
        """No text has the row; `index` is that of the first token that cannot be read, None without one."""
        with self.subTest(row=row[:9], changes=changes):
            table = Sorts(changes)
            self.assertEqual(first_unreadable(row, table), index)
            self.assertIs(is_readable(row, table), False)
            with self.assertRaises(InvalidOperation):
                text_of(row, table)


class Examples(Checks):
    def test_first_unreadable(self):
        some = ((HI, X), (HI, BLANK), (BLANK, X), (X, BLANK, BLANK), (X, ("sign", "`", "other")), (("word", "h1"),),
                (("word", "!"), BLANK))
        self.assertEqual([first_unreadable(row) for row in some], [None, 1, 0, 2, 1, 0, None])

    def test_changed_sorts(self):
        bare = Sorts({"`": "other"})
        told = [is_readable((X,)), is_readable((X,), bare), first_unreadable((X,), bare),
                is_readable((X, BLANK), bare), is_readable((HI,), bare),
                is_readable((("word", "par"),), Sorts({"\\": "other"}))]
        self.assertEqual(told, [True, False, None, True, True, True])

    def test_text_of(self):
        row = (HI, X, OPEN, BLANK, CLOSE)
        self.assertEqual(tokens_of(text_of(row), Sorts()), row)
        self.assertEqual(tokens_of(text_of(()), Sorts()), ())


class ThePlainReader(unittest.TestCase):
    """The reader of the tests itself, on the examples of "Stage 2: reading text"."""

    def test_examples(self):
        plain = Sorts()
        self.assertEqual([token[1] for token in tokens_of("a  b \n\n\\hi  x`y\n", plain)],
                         ["a", " ", "b", " ", "par", "hi", "x"])
        self.assertEqual(tokens_of("\n a{", plain), (PAR, letter("a"), OPEN, BLANK))
        self.assertEqual(tokens_of("\\ \\!\\", plain), (word(" "), word("!"), word("\n")))
        self.assertEqual(tokens_of("x", Sorts({"\n": "other"})), (X, other("\n")))
        self.assertEqual(tokens_of("a|b", Sorts({"|": "end"})), (letter("a"), BLANK))


class PlainSorts(Checks):
    def test_the_table_can_be_left_out(self):
        for row in ((), (X,), (X, BLANK), (HI, X), (PAR, PAR), (word("\n"),)):
            for arguments in ((row,), (row, None), (row, Sorts())):
                self.assertIs(is_readable(*arguments), True)
                self.assertIsNone(first_unreadable(*arguments))
                self.assertEqual(tokens_of(text_of(*arguments), Sorts()), row)

    def test_rows_without_tokens(self):
        self.has((), {})
        self.has((), {"`": "other"})
        self.has((), {sign: "letter" for sign in ALL_SIGNS})

    def test_a_comment_can_stand_behind_any_row(self):
        for row in ((X,), (X, X), (OPEN, CLOSE), (X, BLANK, X), (word("!"),), (word("!"), BLANK, X)):
            self.has(row, {})

    def test_the_last_newline_counts(self):
        self.assertEqual(tokens_of("a", Sorts()), (letter("a"), BLANK))
        self.has((letter("a"), BLANK), {}, 1)
        self.has((HI,), {}, 3)
        self.has((PAR,), {}, 1)
        self.has((X, BLANK, PAR), {}, 3)

    def test_no_text_begins_with_a_blank_token(self):
        self.lacks((BLANK,), {}, 0)
        self.lacks((BLANK, X), {}, 0)
        self.lacks((PAR, BLANK), {}, 1)

    def test_no_blank_token_behind_another_one(self):
        self.lacks((X, BLANK, BLANK), {}, 2)
        self.lacks((X, BLANK, X, BLANK, BLANK, X), {}, 4)

    def test_no_blank_token_behind_a_word_of_letters_or_of_a_blank(self):
        for name in ("h", "hi", "x" * 60, " ", "\n", "par"):
            self.lacks((word(name), BLANK), {}, 1)
            self.has((word(name), X, BLANK), {})
        for name in "!`{#~\\1":
            self.has((word(name), BLANK), {}, 2)

    def test_a_sign_token_has_the_sort_of_its_sign(self):
        for sign in ALL_SIGNS:
            sort = Sorts()[sign]
            for wrong in ("open", "close", "slot", "letter", "other", "active"):
                if wrong != sort:
                    self.lacks((X, ("sign", sign, wrong)), {}, 1)
            if sort in ("open", "close", "slot", "letter", "other", "active"):
                self.has((X, ("sign", sign, sort)), {})

    def test_words_of_one_sign(self):
        for sign in ALL_SIGNS:
            self.has((word(sign),), {})
            self.has((word(sign), X), {})

    def test_words_of_several_signs_are_all_letters(self):
        for name in ("h1", "1h", "!!", "a b", "a ", " a", "a\n", "\na", "\n\n", "  ", " \n", "\\par", "a" * 59 + "1"):
            self.lacks((word(name),), {}, 0)
            self.lacks((X, HI, word(name), X), {}, 2)
        for name in ("hi", "par", "HelloWorld", "a" * 59, "z" * 60):
            self.has((word(name),), {}, 1 if name == "par" else len(name) + 1)

    def test_letters_behind_words(self):
        for name in ("h", "hi", "x" * 59):
            self.has((word(name), X), {}, len(name) + 4)
        self.has((word("x" * 60), X, BLANK), {}, 62)
        self.has((word("x" * 60), X, X, BLANK), {}, 63)
        self.has((word("x" * 59), other("1"), BLANK), {}, 61)

    def test_what_a_text_begins_with_it_can_have(self):
        random = Random(3)
        tokens = (X, BLANK, HI, PAR, OPEN, CLOSE, word(" "), word("\n"), word("!"), other("!"), word("x" * 60))
        for _ in range(1500):
            row = tuple([random.choice(tokens) for _ in range(random.randrange(1, 8))])
            index = first_unreadable(row)
            self.has(row[:index], {})
            if index is not None:
                self.lacks(row, {}, index)


class ChangedSorts(Checks):
    def test_without_a_comment_sign(self):
        for row in ((X,), (X, BLANK, X), (word("!"),), (OPEN, CLOSE), (HI, X)):
            self.lacks(row, BARE, None)
            self.has((*row, BLANK), BARE)
        self.lacks((word(" "),), BARE, None)
        for row in ((), (HI,), (PAR,), (word(" "), HI), (word("\n"),), (X, HI), (X, BLANK), (X, BLANK, PAR)):
            self.has(row, BARE)

    def test_other_comment_signs(self):
        self.has((X,), {"`": "other", "x": "letter", "?": "comment"}, 2)
        self.has((other("`"),), {"`": "other", "?": "comment"}, 2)

    def test_without_an_escape_sign(self):
        table = {"\\": "other"}
        self.lacks((HI,), table, 0)
        self.lacks((PAR, word("\n")), table, 1)
        self.has((PAR, other("\\"), BLANK, PAR), table)
        self.lacks((PAR,), {"\\": "other", "\n": "other"}, 0)

    def test_another_escape_sign(self):
        table = {"\\": "other", "|": "escape"}
        self.has((HI, word("\\"), word("|"), other("\\")), table)
        self.has((word("par"),), {**table, "\n": "ignored"}, 4)
        for sign in "!?x~":
            self.has((word("\n"), word(sign), other("\\")), {"\\": "other", sign: "escape"})

    def test_the_space_is_the_only_escape_sign(self):
        table = {"\\": "other", " ": "escape"}
        self.has((HI,), table, 3)
        self.has((X, HI, word("!"), word(" "), X), table)
        self.lacks((word("\n"),), table, 0)
        self.lacks((X, word(" "), word("\n")), table, 2)
        self.has((word(" "), BLANK), {**table, "?": "blank"}, 3)
        self.lacks((word(" "), BLANK), {**table, "`": "other"}, 1)

    def test_the_newline_is_an_escape_sign(self):
        table = {"\\": "other", "\n": "escape"}
        self.has((word("\n"),), table, 1)
        self.has((X, word("\n"), word("\n"), X), table)
        self.has((X, word("\n")), table, 1)
        self.lacks((HI,), table, 0)
        self.lacks((PAR,), table, 0)
        self.has((word("\n"), HI, PAR), {"\n": "escape"})
        self.lacks((HI,), {"\n": "escape", "`": "other"}, None)
        self.has((HI, word("\n")), {"\n": "escape", "`": "other"}, 3)

    def test_the_space_is_a_token(self):
        for sort in ("open", "close", "slot", "letter", "other", "active"):
            space = ("sign", " ", sort)
            self.has((space,), {" ": sort}, 2)
            self.has((space, X, space), {" ": sort}, 4)
            self.lacks((X, BLANK, BLANK), {" ": sort}, 2)
            self.has((X, BLANK, X, BLANK), {" ": sort}, 3)

    def test_spaces_at_the_end_of_a_line_are_not_read(self):
        table = {" ": "other", "`": "other"}
        space = other(" ")
        self.lacks((space,), table, None)
        self.lacks((space, space), table, None)
        self.lacks((space, BLANK), table, 1)
        self.lacks((X, space, BLANK), table, 2)
        self.has((space, X, BLANK), table, 2)
        self.has((X, BLANK, space, X, BLANK), table, 4)
        for sign in "!?~y":
            self.has((space, BLANK), {**table, sign: "blank"}, 2)
            self.has((space, BLANK), {**table, sign: "end"}, 2)
            self.has((space, BLANK), {**table, sign: "ignored"}, 2)
        self.has((space, word("\n")), table, 2)
        self.has((space,), {" ": "other"}, 2)
        self.lacks((space, other("\n")), {**table, "\n": "other"}, 1)
        self.lacks((space, word("\n")), {**table, "\\": "other", "\n": "escape"}, 1)

    def test_spaces_at_the_end_of_a_line_in_names(self):
        table = {" ": "letter"}
        self.has((word("a "),), table, 4)
        self.has((word("  "), other("!")), table)
        self.has((word("a b"),), table, 4)
        self.lacks((word("a "),), {**table, "`": "other"}, None)
        self.has((word("a "), HI), {**table, "`": "other"}, 6)
        self.has((word("a" * 59 + " "), X, BLANK), {**table, "`": "other"}, 62)
        self.lacks((word("a" * 59 + " "), BLANK), {**table, "`": "other"}, 1)
        self.has((word(" "), BLANK), {" ": "other", "?": "blank"}, 3)
        self.lacks((word(" "), BLANK), {" ": "other", "`": "other"}, 1)

    def test_the_newline_is_a_letter(self):
        table = {"\n": "letter"}
        self.has((word("a\n"),), table, 2)
        self.has((word("\n"), word("ab\n"), word("a")), table)
        self.has((X, letter("\n"), letter("\n")), table)
        self.lacks((word("a"),), {**table, "`": "other"}, None)
        self.lacks((word("a"), letter("\n")), {**table, "`": "other", " ": "other"}, 1)
        self.has((word("a"), letter("\n")), table, 5)
        self.has((word("a" * 59 + "\n"),), table, 60)
        self.has((word("a" * 60), letter("\n")), {**table, " ": "other"}, 61)
        self.lacks((word("a" * 59), letter("\n")), {**table, " ": "other", "`": "other"}, 1)
        for name in ("a\nb", "\na", "\n\n", "a\n1", "1\n"):
            self.lacks((word(name),), table, 0)

    def test_the_newline_and_the_space_are_letters(self):
        table = {"\n": "letter", " ": "letter"}
        for name in ("a \n", " \n", "a  \n", " " * 59 + "\n"):
            self.lacks((word(name),), table, 0)
        self.has((word(" a\n"), word("\n"), word("a")), table)
        self.lacks((letter(" "), letter("\n")), {**table, "`": "other"}, 1)

    def test_the_newline_is_a_token(self):
        for sort in ("open", "close", "slot", "other", "active"):
            table, newline = {"\n": sort}, ("sign", "\n", sort)
            self.has((newline,), table, 1)
            self.has((newline, newline), table, 2)
            self.has((X, newline), table, 1)
            self.has((X, newline, newline), table, 3)
            self.has((HI, newline), table, 3)
            self.has((word("\n"), newline), table, 3)
            self.lacks((PAR, newline, BLANK), table, 2)
            self.lacks((X,), {**table, "`": "other"}, None)

    def test_the_newline_is_silent(self):
        for sort in ("ignored", "comment"):
            self.has((X,), {"\n": sort, "`": "other"}, 1)
            self.has((HI, X, X), {"\n": sort, "`": "other"}, 6)
            self.has((HI, X, X), {"\n": sort, "`": "other", " ": "other"}, 6)
        self.has((X, BLANK), {"\n": "blank", "`": "other"}, 1)
        self.has((HI,), {"\n": "blank", "`": "other"}, 3)
        self.lacks((X,), {"\n": "blank", "`": "other"}, None)
        self.has((word("par"),), {"\n": "blank"}, 4)

    def test_the_space_ends_the_reading_of_a_line(self):
        comment = {" ": "comment", "`": "other"}
        self.has((X,), comment, 3)
        self.has((HI, X, BLANK), comment)
        end = {" ": "end", "`": "other"}
        self.has((X, BLANK), end, 1)
        self.lacks((X,), end, None)
        self.has((PAR,), {**end, "\n": "comment"}, 2)
        self.has((PAR, PAR), {**end, "\n": "comment"}, 5)
        self.has((X, BLANK), {**end, "\n": "comment"}, 3)
        self.has((other("!"),), {" ": "comment", "`": "other", "\n": "other"}, 3)

    def test_the_space_is_not_the_only_sign_that_ends_the_reading_of_a_line(self):
        self.has((X,), {" ": "comment", "\n": "other"}, 2)
        self.has((X, BLANK), {" ": "end", "|": "end", "\n": "other"}, 2)
        self.has((HI, X), {" ": "end", "|": "end", "\n": "other"}, 7)
        self.has((PAR,), {" ": "end", "|": "end", "\n": "other"}, 1)

    def test_several_signs_without_a_token_one_behind_the_other(self):
        table = {" ": "other", "`": "other", "?": "ignored"}
        for sort in ("ignored", "comment"):
            self.has((other(" "),), {**table, "\n": sort}, 2)
            self.has((X, other(" "), HI, other(" ")), {**table, "\n": sort}, 7)
        self.has((word(" "),), {**table, " ": "blank", "\n": "end"}, 3)
        self.has((word(" "), X), {**table, " ": "blank", "\n": "end", "`": "comment"}, 4)

    def test_there_are_several_ways_to_go_on(self):
        table = {" ": "slot", "\n": "active", "|": "ignored"}
        self.has((HI, X), table, 6)
        self.has((HI, X, HI), table, 9)
        self.has((X, PAR, HI), {" ": "comment", "\n": "active", "?": "end"}, 9)
        self.has((HI, PAR, HI), {" ": "end", "\n": "escape"}, 11)

    def test_the_space_is_ignored(self):
        table = {" ": "ignored", "`": "other", "\n": "other"}
        self.has((HI, X, other("\n")), table, 5)
        self.lacks((HI, BLANK), table, 1)
        self.lacks((X, BLANK), table, 1)

    def test_other_end_signs(self):
        table = {"|": "end", "\n": "other"}
        self.has((X, BLANK), table, 2)
        self.has((PAR,), table, 1)
        self.has((PAR, HI, X, BLANK), table)
        self.has((HI,), {**table, "`": "other"}, 4)
        self.lacks((X,), {**table, "`": "other"}, None)

    def test_a_blank_name(self):
        self.lacks((word("?"), BLANK), {"?": "blank"}, 1)
        self.has((word("?"), X), {"?": "blank"})
        self.has((word("?"), BLANK), {"?": "ignored"}, 2)
        self.has((word("?"), BLANK), {"?": "end"}, 2)

    def test_nothing_parts_a_word_from_a_letter(self):
        table = {"`": "other", " ": "other", "\n": "other"}
        for name in ("h", "h" * 59):
            self.lacks((word(name), X), table, 1)
            self.has((word(name), other("\n"), X, other("\n")), table)
        self.has((word("h" * 60), X, other("\n")), table, 62)
        self.has((word("!"), X, other("\n")), table, 3)

    def test_many_lines_must_be_gone_through(self):
        table = {" ": "other", "`": "comment", "\n": "other"}
        self.has((HI, X) * 100, table, 601)
        self.lacks((HI, X, BLANK), table, 2)


class Limits(Checks):
    def check_limit(self, row, changes):
        with self.assertRaises(TooMany) as caught:
            text_of(row, Sorts(changes))
        self.assertEqual(caught.exception.limit, 20000)
        self.assertIs(is_readable(row, Sorts(changes)), True)
        self.assertIsNone(first_unreadable(row, Sorts(changes)))

    def test_words_of_three_letters(self):
        row = (word("abc"),) * 4999
        self.has((*row, word("abc")), {})
        self.assertEqual(len(text_of((*row, word("abc")))), 20000)
        self.check_limit((*row, word("abcd")), {})

    def test_words_of_sixty_letters(self):
        row = (word("x" * 60),) * 327
        self.has((*row, word("x" * 52)), {})
        self.check_limit((*row, word("x" * 53)), {})
        self.has((*row, X, word("x" * 51)), {})
        self.check_limit((*row, X, word("x" * 52)), {})
        self.check_limit((word("x" * 60),) * 5000, {})

    def test_the_newline_of_the_last_line_can_be_left_out(self):
        row = (word("abc"),) * 4997
        self.has((*row, word("x" * 9), X, BLANK), {})
        self.check_limit((*row, word("x" * 10), X, BLANK), {})

    def test_the_newline_of_an_empty_last_line_counts(self):
        row = (word("abc"),) * 4997
        self.has((*row, word("abc"), word("abcde"), PAR), {})
        self.check_limit((*row, word("abc"), word("abcdef"), PAR), {})

    def test_unread_signs_behind_a_space_count(self):
        table = {"`": "other", " ": "comment", "\n": "other"}
        row = (word("abc"),) * 4998
        self.has((*row, word("a"), X), table)
        self.check_limit((*row, word("ab"), X), table)

    def test_rows_of_the_greatest_length(self):
        self.has((X, BLANK) * 2500, {})
        self.has((PAR,) * 5000, {})
        self.has((X,) * 5000, {})
        self.lacks((X,) * 4999 + (other("x"),), {}, 4999)
        self.lacks((X, BLANK) * 2499 + (HI, BLANK), {}, 4999)


class AllShortTexts(Checks):
    """Rows of all short texts of a few signs: the least number of signs of a text is known for them."""

    TABLES = (
        {"a": "letter", "\\": "escape", " ": "blank", "\n": "end"},
        {"a": "letter", "\\": "escape", " ": "letter", "\n": "letter"},
        {"a": "letter", " ": "escape", "|": "ignored", "\n": "end"},
        {"a": "letter", " ": "escape", "|": "blank", "\n": "letter"},
        {"a": "letter", "\\": "escape", " ": "comment", "\n": "blank"},
        {"a": "letter", "\\": "escape", " ": "end", "\n": "other"},
        {"a": "other", "|": "end", " ": "active", "\n": "escape"},
        {"a": "open", "|": "blank", " ": "other", "\n": "comment"},
        {"a": "slot", "|": "ignored", " ": "end", "\n": "ignored"},
        {"a": "close", "|": "comment", " ": "ignored", "\n": "end"},
        {"\\": "escape", "|": "comment", " ": "letter", "\n": "end"},
        {"\\": "escape", "a": "letter", " ": "ignored", "\n": "active"},
    )
    LONGEST = 6

    def test_tables(self):
        for given in self.TABLES:
            self.check_table(given)

    def test_random_tables(self):
        random = Random(4)
        for _ in range(12):
            self.check_table({sign: random.choice(SORTS) for sign in "a\\ \n"})

    def check_table(self, given):
        # All signs besides those of the texts make tokens of their own, so no other text has the same rows.
        changes = {**{sign: "other" for sign in ALL_SIGNS}, **given}
        found, begun = {}, {(): True}
        for many in range(self.LONGEST + 1):
            for signs in product(sorted(given), repeat=many):
                row = tokens_of("".join(signs), changes)
                found.setdefault(row, many)
                for end in range(len(row) + 1):
                    begun[row[:end]] = True
        tokens = {token for row in found if len(row) < 3 for token in row}
        tokens = sorted(tokens | {BLANK, PAR, word("a "), letter("a")})
        rows = list(product(tokens, repeat=1)) + list(product(tokens, repeat=2))
        rows += [row for row in found if len(row) > 2][::7]
        table = Sorts(changes)
        for row in rows:
            self.check_row(row, table, found, begun)
        if table["a"] == "letter" and table["\\"] == "escape":
            for row in [row for row in rows if row in found][::25]:
                self.check_least(row, table, found[row], "a")

    def check_row(self, row, table, found, begun):
        index = first_unreadable(row, table)
        if is_readable(row, table):
            self.check_text(row, table)
            self.assertIsNone(index)
            if row not in found:
                self.assertGreater(len(text_of(row, table)), self.LONGEST)
        else:
            self.assertNotIn(row, found)
        if index is None:
            self.assertTrue(self.goes_on(row, table), (table.changes, row))
        else:
            self.assertNotIn(row[:index + 1], begun)
            self.assertTrue(self.goes_on(row[:index], table), (table.changes, row))

    def goes_on(self, row, table):
        """Whether some text has the row and at most two tokens more."""
        ends = [("sign", sign, table[sign]) for sign in ("a", "\\", "|", "!", "\n")]
        ends = [token for token in ends if is_token(token)] + [word("\n"), word("!"), BLANK]
        for many in range(3):
            for more in product(ends, repeat=many):
                longer = row + more
                if is_readable(longer, table):
                    return tokens_of(text_of(longer, table), table) == longer
        return False


class WrongValues(unittest.TestCase):
    CALLS = (first_unreadable, is_readable, text_of)

    def refuse(self, error, *arguments):
        for call in self.CALLS:
            with self.subTest(call=call), self.assertRaises(error):
                call(*arguments)

    def test_wrong_rows(self):
        def is_a_row(value):
            return isinstance(value, tuple) and value in ((), (PAR,))
        for value in odd_values_but(is_a_row) + [(X,) * 5001, [X], (X, "x"), (("sign", "x", "blank"),)]:
            self.refuse(InvalidRow, value)
            self.refuse(InvalidRow, value, Sorts())

    def test_wrong_sorts(self):
        for value in odd_values_but(lambda one: one is None or isinstance(one, Sorts)):
            self.refuse(InvalidSort, (X,), value)

    def test_the_order_of_the_errors(self):
        self.refuse(InvalidRow, "row", "sorts")
        self.refuse(InvalidRow, (X, "x"), {})
        self.refuse(InvalidSort, (BLANK,), {})
        self.refuse(InvalidSort, (word("x" * 60),) * 5000, False)

    def test_equal_calls_return_equal_results(self):
        changes = {"`": "other", "?": "ignored"}
        table = Sorts(changes)
        for row in ((HI, X, BLANK), (X, X, BLANK), (PAR, PAR, HI)):
            self.assertEqual(text_of(row, table), text_of(row, Sorts(changes)))
        self.assertEqual(table, Sorts(changes))

    def test_no_text_is_told_ahead_of_too_many_signs(self):
        with self.assertRaises(InvalidOperation):
            text_of((word("x" * 60),) * 4999 + (BLANK,))
        with self.assertRaises(InvalidOperation):
            text_of((word("x" * 60),) * 4999 + (X,), Sorts(BARE))


if __name__ == "__main__":
    unittest.main()
