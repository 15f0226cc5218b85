"""[6.1] to [6.9] and all that stands below "Stage 6: expansion"."""

import unittest
from random import Random

from odd_values import ODD_VALUES
from pagewright.base.glue import Glue
from pagewright.errors import BadUse, Fault, InvalidNumber, InvalidOperation, InvalidRow, InvalidScope, TooMany
from pagewright.macro import expander as module
from pagewright.macro import machine
from pagewright.macro.expander import COMMANDS, WAITS, Expander, standard_meanings
from pagewright.macro.macros import macro_of
from pagewright.macro.scopes import Scope
from pagewright.text.reader import Reader, tokens_of

BLANK, PAR = ("sign", " ", "blank"), ("word", "par")
HASH = ("sign", "#", "slot")


def letter(sign):
    return ("sign", sign, "letter")


def other(sign):
    return ("sign", sign, "other")


def word(name):
    return ("word", name)


def row_of(text):
    """The tokens of a text, without the blank of its last newline."""
    return tokens_of(text + "`")


def text_of(tokens):
    """A short text for tokens: words with a backslash ahead and a space behind."""
    return "".join([f"\\{token[1]} " if token[0] == "word" else token[1] for token in tokens])


def macro_for(parameters, body, is_long=False):
    return macro_of(row_of(parameters), row_of(body), is_long=is_long)


def scope_for():
    """A scope with the standard meanings, some macros, and values in registers."""
    scope = Scope(meanings=standard_meanings())
    for name, parameters, body in (("d", "#1", "#1#1"), ("none", "", ""), ("swap", "#1#2", "#2#1"), ("upto", "#1.", "(#1)"),
                                   ("one", "", "1"), ("loop", "", "\\loop"), ("plusword", "", "plus"), ("head", "ab", "H"),
                                   ("two", "", "\\one\\one"), ("fiword", "", "\\fi"), ("else", None, None)):
        if parameters is not None:
            scope.assign("meaning", word(name), macro_for(parameters, body))
    scope.assign("meaning", ("sign", "~", "active"), macro_for("", "T"))
    scope.assign("meaning", word("letter"), letter("q"))
    scope.assign("meaning", word("myfi"), ("command", "fi"))
    scope.assign("meaning", word("my"), ("command", "unknown"))
    scope.assign("number", 3, -12)
    scope.assign("number", 1, 3)
    scope.assign("number", 255, 2 ** 31 - 1)
    scope.assign("length", 2, 98304)
    scope.assign("length", 4, -65536)
    scope.assign("glue", 5, Glue(65536, stretch=131072, stretch_order=1, shrink=1))
    scope.assign("row", 6, row_of("\\d{a}\\none b"))
    return scope


def expander_for(text=None, *, pushed=None, limit=1000, is_finished=True):
    """An expander over a source with a text, or with pushed tokens."""
    source = None
    if text is not None:
        source = Reader()
        source.feed(text)
        if is_finished:
            source.finish()
    expander = Expander(scope_for(), source, limit=limit)
    if pushed is not None:
        expander.push(row_of(pushed))
    return expander


def whole(text):
    return text_of(Expander(scope_for()).whole(row_of(text)))


def asked(expander):
    """All tokens that are asked for, up to the end or till one must come."""
    found = []
    came = expander.ask()
    while came is not None and came != WAITS:
        found.append(came)
        came = expander.ask()
    return tuple(found)


class Checks(unittest.TestCase):
    def fault(self, told, text):
        with self.subTest(text=text):
            with self.assertRaises(Fault) as caught:
                whole(text)
            self.assertEqual(caught.exception.word, told)
            with self.assertRaises(Fault) as caught:
                asked(expander_for(pushed=text))
            self.assertEqual(caught.exception.word, told)

    def all_whole(self, *pairs):
        for text, told in pairs:
            with self.subTest(text=text):
                self.assertEqual(whole(text), told)
                self.assertEqual(text_of(asked(expander_for(pushed=text))), told)
                self.assertEqual(text_of(asked(expander_for(text + "`"))), told)


class Examples(Checks):
    def test_examples(self):
        scope = Scope(meanings=standard_meanings())
        scope.assign("meaning", ("word", "d"), macro_of(tokens_of("#1`"), tokens_of("#1#1`")))
        scope.assign("number", 3, -12)
        texts = ("\\d{ab}c`", "\\digits\\number3x`", "\\ifnumber1<2 a\\else b\\fi c`",
                 "\\ifcase 2 a\\or b\\or c\\or d\\else e\\fi`", "\\show\\d`")
        told = ["".join([token[1] for token in Expander(scope).whole(tokens_of(text))]) for text in texts]
        self.assertEqual(told, ["ababc", "-12x", "ac", "c", "\\d"])
        others = ("\\after x\\d y`", "\\keep\\d a`", "\\ifsame\\d\\e a\\else b\\fi`", "\\ifodd 1\\else b\\fi`")
        told = ["".join([token[1] for token in Expander(scope).whole(tokens_of(text))]) for text in others]
        self.assertEqual(told, ["xyy", "da", "b", ""])

    def test_constants(self):
        self.assertEqual(module.WAITS, "waits")
        self.assertEqual(COMMANDS, ("after", "keep", "name", "show", "digits", "value", "iftrue", "iffalse", "ifnumber", "iflength",
                                    "ifodd", "ifsame", "ifsign", "ifcase", "else", "or", "fi"))
        self.assertEqual(COMMANDS, (*machine.SIMPLE, *machine.TESTS, *machine.CLOSING))

    def test_standard_meanings(self):
        words = COMMANDS + ("endname", "number", "length", "glue", "row")
        self.assertEqual(list(standard_meanings().items()), [(word(name), ("command", name)) for name in words])


class Macros(Checks):
    def test_macros(self):
        self.all_whole(
            ("", ""), ("ab", "ab"), ("\\none", ""), ("a\\none b", "ab"), ("\\d x", "xx"), ("\\d{ab}", "abab"), ("\\d{\\d{x}}", "xxxx"),
            ("\\d\\none", ""), ("\\d{}", ""), ("\\swap a{bc}d", "bcad"), ("\\swap\\d{xy}z", "xyzz"), ("\\upto a{.}b.c", "(a{.}b)c"),
            ("~x~", "TxT"), ("\\d~", "TT"), ("\\two", "11"), ("\\undefined x", "\\undefined x"), ("\\letter", "\\letter "),
            ("\\my\\endname\\number", "\\my \\endname \\number "), ("\\head abc", "Hc"), ("\\par", "\\par "), ("a {b} #", "a {b} #"),
        )

    def test_arguments_are_not_expanded_ahead(self):
        self.all_whole(("\\swap\\none\\show", "\\none"), ("\\d{\\show\\one}", "\\one\\one"))
        scope = scope_for()
        scope.assign("meaning", word("k"), macro_for("#1", "\\keep#1"))
        told = Expander(scope).whole(row_of("\\k\\d x"))
        self.assertEqual(text_of(told), "\\d x")

    def test_what_is_undefined_stays(self):
        tokens = (word("nope"), ("sign", "?", "active"), ("sign", "~", "other"), PAR, BLANK, BLANK, HASH)
        self.assertEqual(Expander(scope_for()).whole(tokens), tokens)

    def test_bad_uses(self):
        for text, number in (("\\head ac", 1), ("\\head b", 0), ("\\d}", 0), ("\\d\\par", 0), ("\\d{a\\par}", 2), ("\\upto a}.", 1),
                             ("\\upto {\\par", 1), ("\\swap a }", 2), ("x\\after y\\d}", 0)):
            for run in (lambda: whole(text), lambda: asked(expander_for(text + "`"))):
                with self.subTest(text=text), self.assertRaises(BadUse) as caught:
                    run()
                self.assertEqual(caught.exception.number, number)

    def test_ended(self):
        for text in ("\\d", "\\d{a", "\\swap a", "\\upto abc", "\\head a", "\\swap\\d x", "\\upto {.}"):
            self.fault("ended", text)

    def test_many_tokens(self):
        scope = scope_for()
        scope.assign("meaning", word("long"), macro_for("#1.", "#1"))
        five = (letter("x"),) * 4998
        self.assertEqual(len(Expander(scope).whole((word("long"), *five, other(".")))), 4998)
        expander = Expander(scope)
        expander.push((letter("x"),) * 4998 + (other("."), letter("y")))
        expander.push((word("long"), letter("x")))
        self.assertEqual(len(asked(expander)), 5000)
        expander = Expander(scope)
        expander.push((letter("x"),) * 5000)
        expander.push((word("long"), letter("x")))
        with self.assertRaises(TooMany) as caught:
            expander.ask()
        self.assertEqual(caught.exception.limit, 5000)
        expander = Expander(scope)
        expander.push((letter("x"),) * 4999)
        expander.push((word("long"), letter("x")))
        with self.assertRaises(Fault) as caught:
            expander.ask()
        self.assertEqual(caught.exception.word, "ended")

    def test_a_macro_that_puts_many(self):
        scope = scope_for()
        scope.assign("meaning", word("five"), macro_for("#1", "#1#1#1#1#1"))
        expander = Expander(scope)
        expander.push((word("five"), ("sign", "{", "open"), *(letter("x"),) * 1000, ("sign", "}", "close")))
        self.assertEqual(len(asked(expander)), 5000)
        expander.push((word("five"), ("sign", "{", "open"), *(letter("x"),) * 1001, ("sign", "}", "close")))
        with self.assertRaises(TooMany) as caught:
            expander.ask()
        self.assertEqual(caught.exception.limit, 5000)


class Commands(Checks):
    def test_after(self):
        self.all_whole(
            ("\\after x\\d y", "xyy"), ("\\after\\d\\none xy", "xxy"), ("\\after\\d\\swap xy", "yyx"), ("\\after xy", "xy"),
            ("\\after\\show\\one", "1"), ("\\after\\after\\after\\show\\two", "11"), ("\\after x", "x"),
            ("\\after\\d\\undefined", "\\undefined \\undefined "), ("\\after\\none x", "x"), ("\\after{\\none}", "{}"),
            ("\\after\\d\\iftrue{ab}\\fi", "abab"), ("\\iftrue\\after a\\fi b", "ab"), ("\\after x\\keep\\none", "x\\none "),
        )
        self.fault("ended", "\\after")
        self.fault("ended", "\\after x\\d")

    def test_keep(self):
        self.all_whole(("\\keep\\d a", "\\d a"), ("\\keep a", "a"), ("\\keep\\keep\\none", "\\keep "), ("\\keep\\fi", "\\fi "),
                       ("\\after\\d\\keep\\none", ""), ("\\keep~", "~"), ("\\d{\\keep\\none}", "\\none \\none "))
        self.fault("ended", "\\keep")

    def test_still_tokens(self):
        scope = scope_for()
        expander = Expander(scope)
        expander.push(row_of("\\value\\row6"))
        self.assertEqual(asked(expander), row_of("\\d{a}\\none b"))
        expander.push(row_of("\\keep\\none"))
        self.assertEqual(expander.ask(), word("none"))
        expander.push(row_of("\\after x\\keep\\none"))
        self.assertEqual([expander.ask(), expander.ask(), expander.ask()], [letter("x"), word("none"), None])
        # Behind its taking it is an ordinary token again.
        expander.push(row_of("\\after\\d\\keep\\one"))
        self.assertEqual(text_of(asked(expander)), "11")

    def test_still_tokens_are_no_commands(self):
        self.fault("extra", "\\iffalse\\keep\\fi\\else a\\fi")
        scope = scope_for()
        for row, told in ((row_of("\\fi a\\fi"), "\\fi a"), (row_of("\\else\\iftrue\\or\\fi"), "\\else \\iftrue \\or ")):
            scope.assign("row", 7, row[:-1])
            self.assertEqual(text_of(Expander(scope).whole(row_of("\\iftrue\\value\\row7 \\fi"))), told)
        scope.assign("row", 7, row_of("\\fi\\else\\iftrue"))
        # They are put ahead of what is skipped, and neither close nor open anything.
        self.assertEqual(text_of(Expander(scope).whole(row_of("\\after\\iffalse\\value\\row7 a\\else b\\fi c"))), "bc")
        scope.assign("row", 7, row_of("\\number1"))
        with self.assertRaises(Fault) as caught:
            Expander(scope).whole(row_of("\\digits\\value\\row7 "))
        self.assertEqual(caught.exception.word, "number")
        scope.assign("row", 7, row_of("a\\endname"))
        with self.assertRaises(Fault) as caught:
            Expander(scope).whole(row_of("\\name\\value\\row7 \\endname"))
        self.assertEqual(caught.exception.word, "name")

    def test_skipped_tokens_behind_a_still_one(self):
        # Put back as still by `keep`, and skipped then: `keep` itself must be expanded ahead of the condition.
        self.all_whole(("\\after\\iffalse\\keep\\fi a\\else b\\fi c", "bc"), ("\\after\\iffalse\\keep\\iftrue a\\else b\\fi c", "bc"))

    def test_name(self):
        sixty = "x" * 60
        self.all_whole(
            ("\\name d\\endname y", "yy"), ("\\name a1 !\\endname", "\\a1 ! "), ("\\name\\two\\endname", "\\11 "),
            ("\\name n\\name one\\endname\\endname", "\\n1 "), (f"\\name {sixty}\\endname", f"\\{sixty} "),
            ("\\name\\iftrue d\\else e\\fi\\endname y", "yy"), ("\\iftrue\\name a\\fi b\\endname", "\\ab "),
            ("\\name ~\\endname", "\\T "),
        )
        for text in ("\\name\\endname", f"\\name {sixty}y\\endname", f"\\name {sixty}y", "\\name a\\par\\endname", "\\name{a}\\endname",
                     "\\name a\\undefined b\\endname", "\\name a\\letter\\endname", "\\name #\\endname", "\\name a\\number\\endname",
                     "\\name a\\keep\\endname\\endname"):
            self.fault("name", text)
        for text in ("\\name", "\\name a", "\\name\\none", f"\\name {sixty}"):
            self.fault("ended", text)
        expander = Expander(scope_for())
        for sign in (("sign", "?", "active"), ("sign", "a", "slot"), ("sign", "a", "open")):
            with self.assertRaises(Fault) as caught:
                expander.whole((word("name"), sign, word("endname")))
            self.assertEqual(caught.exception.word, "name")

    def test_show(self):
        expander = Expander(scope_for())
        for token, told in ((letter("a"), (other("a"),)), (BLANK, (BLANK,)), (word("ab"), (other("\\"), other("a"), other("b"))),
                            (word("a b"), (other("\\"), other("a"), BLANK, other("b"))), (("sign", "~", "active"), (other("~"),)),
                            (HASH, (other("#"),)), (("sign", "{", "open"), (other("{"),)), (("sign", " ", "letter"), (BLANK,)),
                            (word("\n"), (other("\\"), other("\n"))), (("sign", "\n", "other"), (other("\n"),)),
                            (word("fi"), (other("\\"), other("f"), other("i"))), (word(" "), (other("\\"), BLANK))):
            self.assertEqual(expander.whole((word("show"), token)), told)
        self.fault("ended", "\\show")
        self.all_whole(("\\show\\d a", "\\da"), ("\\show\\show", "\\show"))

    def test_digits(self):
        self.all_whole(
            ("\\digits 12x", "12x"), ("\\digits-12 x", "-12x"), ("\\digits--12", "12"), ("\\digits 007", "7"), ("\\digits -0", "0"),
            ("\\digits\\number3x", "-12x"), ("\\digits-\\number3 x", "12x"), ("\\digits\\number\\number1x", "-12x"),
            ("\\digits\\digits\\digits 5", "5"), ("\\digits\\one\\two a", "111a"), ("\\digits 2147483647", "2147483647"),
            ("\\digits-2147483647", "-2147483647"), ("\\digits" + "0" * 500 + "8", "8"),
        )
        expander = Expander(scope_for())
        self.assertEqual(expander.whole(row_of("\\digits-12")), (other("-"), other("1"), other("2")))

    def test_value(self):
        self.all_whole(
            ("\\value\\number3x", "-12x"), ("\\value \\number 3 x", "-12x"), ("\\value\\number0", "0"), ("\\value\\length2 ", "1.5pt"),
            ("\\value\\glue5", "1pt plus 2fil minus 0.00002pt"), ("\\value\\glue9", "0pt"), ("\\value\\row9x", "x"),
            ("\\value\\number255x", "2147483647x"), ("\\value\\length\\number1", "0pt"), ("\\value\\iftrue\\number\\fi3", "-12"),
            ("\\digits\\value\\number3x", "-12x"),
        )
        expander = Expander(scope_for())
        self.assertEqual(expander.whole(row_of("\\value\\length4")), tuple([other(sign) for sign in "-1pt"]))
        told = expander.whole(row_of("\\value\\glue5"))
        self.assertEqual([told[3], told[4]], [BLANK, other("p")])
        self.assertEqual(expander.whole(row_of("\\value\\row6")), row_of("\\d{a}\\none b"))
        for text in ("\\value x", "\\value\\my", "\\value\\endname", "\\value 3", "\\value\\number256", "\\value\\number-1", "\\value\\number x",
                     "\\value\\keep\\number3", "\\value\\glue256 ", "\\value\\row-1 "):
            self.fault("number", text)
        for text in ("\\value", "\\value ", "\\value\\number", "\\value\\number -"):
            self.fault("ended", text)


class Conditions(Checks):
    def test_both_branches(self):
        self.all_whole(
            ("\\iftrue a\\else b\\fi c", "ac"), ("\\iffalse a\\else b\\fi c", "bc"), ("\\iftrue a\\fi c", "ac"), ("\\iffalse a\\fi c", "c"),
            ("\\iftrue\\fi", ""), ("\\iffalse\\fi", ""), ("\\iftrue\\else\\fi", ""), ("\\iftrue a\\myfi b", "ab"),
            ("\\iffalse a\\myfi b", "b"), ("\\iftrue a\\fiword b", "ab"), ("\\iffalse\\fiword a\\else b\\fiword c", "bc"),
        )

    def test_numbers(self):
        for one, relation, second, holds in (("1", "<", "2", True), ("2", "<", "1", False), ("1", "<", "1", False), ("1", "=", "1", True),
                                             ("1", "=", "2", False), ("2", ">", "1", True), ("1", ">", "2", False), ("1", ">", "1", False),
                                             ("-1", "<", "0", True), ("\\number3", "<", "-11", True), ("\\two", "=", "11", True),
                                             ("1 ", " = ", " +1", True), ("\\number1", " >", "\\number3", True), ("--1", "\\iftrue=\\fi", "1", True)):
            told = "a" if holds else "b"
            self.all_whole((f"\\ifnumber{one}{relation}{second} a\\else b\\fi c", told + "c"))

    def test_lengths(self):
        for one, relation, second, holds in (("1pt", "<", "2pt", True), ("1pt", "=", "65536u", True), ("1pt", ">", "1.00001pt", False),
                                             ("\\length2", "=", "1.5pt", True), ("-\\length4", " = ", "1pt", True), (".5pt ", "<", "-1pt", False)):
            told = "a" if holds else "b"
            self.all_whole((f"\\iflength{one}{relation}{second} a\\else b\\fi c", told + "c"))

    def test_odd_same_and_sign(self):
        self.all_whole(
            ("\\ifodd 1 a\\else b\\fi", "a"), ("\\ifodd 2 a\\else b\\fi", "b"), ("\\ifodd-3 a\\else b\\fi", "a"), ("\\ifodd 0 a\\fi", ""),
            ("\\ifodd\\number3 a\\else b\\fi", "b"), ("\\ifsame\\d\\d a\\else b\\fi", "a"), ("\\ifsame\\d\\e a\\else b\\fi", "b"),
            ("\\ifsame\\e\\f a\\else b\\fi", "a"), ("\\ifsame\\letter qa\\else b\\fi", "a"), ("\\ifsame aaa\\else b\\fi", "a"),
            ("\\ifsame\\fi\\myfi a\\else b\\fi", "a"), ("\\ifsame\\fi\\else a\\else b\\fi", "b"), ("\\ifsame ~T a\\else b\\fi", "b"),
            ("\\ifsame\\d a a\\else b\\fi", "b"), ("\\ifsame\\keep\\keep a\\else b\\fi", "a"), ("\\ifsign aab\\else c\\fi", "b"),
            ("\\ifsign ab c\\else d\\fi", "d"), ("\\ifsign ~Tc\\else d\\fi", "c"), ("\\ifsign\\one1c\\else d\\fi", "c"),
            ("\\ifsign\\two c\\else d\\fi", "c"), ("\\ifsign\\undefined\\undefined c\\else d\\fi", "d"), ("\\ifsign\\letter qc\\else d\\fi", "d"),
            ("\\ifsign a\\iftrue a\\fi b\\else c\\fi", "b"),
        )
        expander = Expander(scope_for())
        for second in (("sign", "a", "other"), ("sign", "a", "active"), ("sign", "a", "open")):
            row = (word("ifsign"), letter("a"), second, letter("x"), word("fi"))
            self.assertEqual(expander.whole(row), (letter("x"),))
        for name in ("fi", "else", "or"):
            self.fault("extra", f"\\ifsign\\{name} a\\fi")
            self.fault("extra", f"\\ifsign a\\{name}\\fi")
            self.fault("extra", f"\\iftrue\\ifsign a\\{name}\\fi\\fi")
        self.all_whole(("\\ifsign\\keep\\fi a b\\else c\\fi", "c"))

    def test_cases(self):
        for number, told in (("0", "a"), ("1", "b"), ("2", "c"), ("3", "e"), ("99", "e"), ("-1", "e"), ("-\\number1", "e")):
            self.all_whole((f"\\ifcase {number} a\\or b\\or c\\else e\\fi f", told + "f"), (f"\\ifcase {number} a\\or b\\or c\\fi f", told.replace("e", "") + "f"))
        self.all_whole(
            ("\\ifcase 1\\ifcase 1 x\\or y\\else z\\fi\\or b\\or c\\fi", "b"), ("\\ifcase 1 a\\or\\ifcase 0 x\\or y\\else z\\fi\\or c\\fi", "x"),
            ("\\ifcase 0\\iftrue x\\else y\\fi\\or b\\fi", "x"), ("\\ifcase 2 a\\or\\iffalse\\or\\else\\or\\fi\\or c\\fi", "c"),
            ("\\ifcase 5\\or\\fi", ""), ("\\ifcase 0\\fi", ""), ("\\ifcase 0 a\\else b\\or c\\fi", "a"),
        )

    def test_nesting(self):
        self.all_whole(
            ("\\iftrue\\iffalse a\\else b\\fi\\else c\\fi", "b"), ("\\iffalse\\iftrue a\\else b\\fi\\else c\\fi", "c"),
            ("\\iffalse\\iffalse\\else\\iftrue\\fi\\fi x\\else c\\fi", "c"), ("\\iftrue a\\else\\iftrue b\\else c\\fi d\\fi e", "ae"),
            ("\\iftrue\\iftrue\\iftrue a\\fi\\fi\\fi", "a"), ("\\iffalse\\ifsign\\ifcase\\fi\\else\\fi\\else x\\fi", "x"),
            ("\\d{\\iftrue a\\else b\\fi}", "aa"), ("\\iftrue\\d{a}\\else\\d\\fi", "aa"), ("\\iffalse{\\else}\\fi", "}"),
        )

    def test_skipping_expands_nothing(self):
        self.all_whole(
            ("\\iffalse\\d\\loop\\fiword\\name\\digits x\\else b\\fi", "b"), ("\\iftrue a\\else\\d\\loop\\show\\fi b", "ab"),
            ("\\iffalse a\\or b\\else c\\fi", "c"), ("\\iftrue a\\else b\\or c\\else d\\fi e", "ae"), ("\\ifcase 0 a\\or b\\else c\\or d\\else e\\fi f", "af"),
        )

    def test_conditions_in_tests(self):
        self.all_whole(
            ("\\ifnumber\\iftrue 1\\else 2\\fi<2 a\\else b\\fi", "a"), ("\\ifnumber\\iffalse 1\\else 3\\fi<2 a\\else b\\fi", "b"),
            ("\\ifnumber 1<\\iftrue 2\\fi a\\else b\\fi", "a"), ("\\ifodd\\ifodd 1 3\\else 2\\fi a\\else b\\fi", "a"),
            ("\\ifsame\\iftrue\\iftrue a\\fi", "a"),
        )
        # A condition that the test leaves open has its own `fi` first.
        self.all_whole(
            ("\\ifnumber 1<\\iftrue 2 a\\fi b\\else c\\fi d", "abd"), ("\\ifnumber 3<\\iftrue 2 a\\fi b\\else c\\fi d", "cd"),
            ("\\ifnumber 3<\\iftrue 2 a\\else x\\fi b\\fi d", "d"), ("\\ifcase\\iftrue 1 a\\or b\\fi c\\or d\\fi e", "de"),
            ("\\ifnumber 1<\\iffalse\\else 2 a\\fi b\\else c\\fi d", "abd"),
        )

    def test_what_ends_a_test(self):
        self.all_whole(
            ("\\ifnumber 1<2\\fi a", "a"), ("\\ifnumber 1<2\\else b\\fi a", "a"), ("\\ifnumber 2<1\\else b\\fi a", "ba"),
            ("\\ifnumber 1<2\\fiword a", "a"), ("\\ifodd 1\\fi", ""), ("\\ifcase 1\\or b\\else c\\fi", "b"), ("\\iflength 1pt<2pt\\fi a", "a"),
            ("\\iflength 1pt<2u\\else b\\fi a", "ba"), ("\\iftrue\\ifnumber 1<2\\fi a\\fi b", "ab"),
        )
        for text, told in (("\\ifnumber\\fi", "number"), ("\\ifnumber 1\\fi", "relation"), ("\\ifnumber 1<\\fi", "number"), ("\\ifodd\\else", "number"),
                           ("\\ifnumber 1<-\\fi", "number"), ("\\iflength 1\\fi", "number"), ("\\iflength 1p\\fi", "number"),
                           ("\\ifodd\\number\\fi", "number"), ("\\ifodd\\name\\fi\\endname\\fi", "name"), ("\\iftrue\\ifodd\\name a\\fi b\\endname", "name"),
                           ("\\ifodd\\value\\fi", "number"), ("\\ifodd\\digits\\or", "number"), ("\\ifcase\\or", "number")):
            self.fault(told, text)

    def test_faults(self):
        for text in ("\\else", "\\or", "\\fi", "a\\fi", "\\iftrue\\fi\\fi", "\\iftrue\\fi\\else", "\\iffalse a\\else b\\else c\\fi", "\\ifcase 1\\else\\or\\fi",
                     "\\iftrue a\\or b\\fi", "\\iffalse a\\else b\\or c\\fi", "\\ifcase 9\\else\\else\\fi", "\\iftrue\\ifcase 0 a\\fi\\or\\fi", "\\fiword",
                     "\\ifcase 0\\iftrue\\or\\fi\\fi"):
            self.fault("extra", text)
        for text in ("\\iftrue", "\\iffalse", "\\iftrue a", "\\iffalse a\\else", "\\iftrue a\\else b", "\\iffalse\\iftrue\\fi", "\\ifcase 1 a", "\\ifsame a", "\\ifsign a",
                     "\\ifsame", "\\ifsign", "\\ifnumber", "\\ifnumber 1", "\\ifnumber 1 ", "\\ifnumber 1<", "\\iflength 1", "\\iflength 1p", "\\ifodd", "\\ifcase",
                     "\\iffalse\\keep\\fi\\iftrue"):
            with self.subTest(text=text), self.assertRaises(Fault) as caught:
                whole(text)
            self.assertEqual(caught.exception.word, "ended")
        for text in ("\\ifnumber 1x", "\\ifnumber 1 \\undefined", "\\ifnumber 1+1", "\\iflength 1pt1pt", "\\ifnumber 1\\keep<2", "\\ifnumber 1~"):
            with self.subTest(text=text):
                if "keep" not in text:
                    self.fault("relation", text)
        row = (word("ifnumber"), other("1"), letter("<"), other("2"), word("fi"))
        with self.assertRaises(Fault) as caught:
            Expander(scope_for()).whole(row)
        self.assertEqual(caught.exception.word, "relation")

    def test_many_open(self):
        expander = expander_for(pushed="a\\iftrue b\\iffalse\\else c\\ifcase 1\\or d\\fi\\fi e\\else f\\fi g")
        self.assertEqual(expander.many_open, 0)
        told = []
        while (token := expander.ask()) is not None:
            told.append((token[1], expander.many_open))
        self.assertEqual(told, [("a", 0), ("b", 1), ("c", 2), ("d", 3), ("e", 1), ("g", 0)])


class Quantities(Checks):
    def reads(self, kind, text, told, rest):
        """What is read of pushed tokens, of a source, and how it goes on."""
        with self.subTest(kind=kind, text=text):
            for expander in (expander_for(pushed=text), expander_for(text + "`")):
                self.assertEqual(getattr(expander, kind)(), told)
                self.assertEqual(text_of(asked(expander)), rest)

    def refuses(self, kind, text, told):
        with self.subTest(kind=kind, text=text):
            for expander in (expander_for(pushed=text), expander_for(text + "`")):
                with self.assertRaises(Fault) as caught:
                    getattr(expander, kind)()
                self.assertEqual(caught.exception.word, told)

    def test_numbers(self):
        for text, told, rest in (("12", 12, ""), ("12x", 12, "x"), ("12 x", 12, "x"), ("12  x", 12, "x"), ("-5", -5, ""), ("+-+-5", 5, ""),
                                 (" - 5", -5, ""), ("+ 5 6", 5, "6"), ("0x", 0, "x"), ("5.", 5, "."), ("5-", 5, "-"), ("2147483647x", 2147483647, "x"),
                                 ("\\number3x", -12, "x"), ("-\\number3x", 12, "x"), ("\\number3 x", -12, "x"), ("\\number 3 5", -12, "5"),
                                 ("\\number\\number1 x", -12, "x"), ("\\one\\two3 x", 1113, "x"), ("5\\undefined", 5, "\\undefined "),
                                 ("5{", 5, "{"), ("5\\none6 ", 56, ""), ("5\\d6x", 566, "x"), ("\\number9 ", 0, ""), ("-\\number255", 1 - 2 ** 31, "")):
            self.reads("number", text, told, rest)
        for text in ("x", "-x", "+-", "{5}", ".5", "2147483648", "-2147483648", "9" * 30, "9" * 4900, "\\undefined", "\\length2", "\\number256", "\\number-1", "\\number x",
                     "\\keep\\number3", "\\number\\number3", "\\letter", "\\glue5"):
            self.refuses("number", text, "ended" if text == "+-" else "number")
        for text in ("", " ", "-", "\\none", "\\number", "\\number-", "+ +"):
            self.refuses("number", text, "ended")

    def test_digits_have_the_sort_other(self):
        for token in (("sign", "5", "letter"), ("sign", "5", "active"), ("word", "5")):
            expander = Expander(scope_for())
            expander.push((other("4"), token))
            self.assertEqual((expander.number(), expander.take()), (4, token))
            expander.push((token,))
            self.assertRaises(Fault, expander.number)
            for sign in "+-":
                expander = Expander(scope_for())
                expander.push((letter(sign), other("4")))
                self.assertRaises(Fault, expander.number)

    def test_what_is_put_back_stays_as_it_was(self):
        expander = expander_for(pushed="5\\keep\\none x")
        self.assertEqual((expander.number(), text_of(asked(expander))), (5, "\\none x"))
        expander = expander_for(pushed="1pt\\keep\\none x")
        self.assertEqual((expander.length(), text_of(asked(expander))), (65536, "\\none x"))
        expander = expander_for(pushed="1pt p\\keep\\none x")
        self.assertEqual((expander.glue(), text_of(asked(expander))), (Glue(65536), "p\\none x"))

    def test_lengths(self):
        for text, told, rest in (("1pt", 65536, ""), ("1pt x", 65536, "x"), ("1ptx", 65536, "x"), ("1.5pt  x", 98304, "x"), (".5ptu", 32768, "u"),
                                 ("7u8", 7, "8"), ("-7u 8", -7, "8"), ("+ - -7u", 7, ""), ("00012pt", 786432, ""), ("0.123456789pt", 8091, ""),
                                 ("\\length2x", 98304, "x"), ("-\\length2 x", -98304, "x"), ("\\length4x", -65536, "x"), ("\\one.\\one pt", 72090, ""),
                                 ("1\\iftrue p\\else\\fi t", 65536, ""), ("1pt\\undefined", 65536, "\\undefined "), ("\\length\\number1 x", 0, "x"),
                                 ("1073741823u", 2 ** 30 - 1, ""), ("1\\none pt", 65536, "")):
            self.reads("length", text, told, rest)
        for text in ("x", "5x", "5 pt", "5px", "5p\\none x", "5\\undefined", "1.pt", ".pt", "1..5pt", "1.5u", "123456pt", "0.1234567890pt", "16384pt", "1073741824u",
                     "99999999999u", "pt", "u", "\\number3", "\\length256", "-x", "5fil", "5P", "\\keep\\length2", "1.2.3pt", "5pT", "5.x"):
            self.refuses("length", text, "number")
        for text in ("", "-", "5", "5.", "5p", ".", "\\length", "5\\none"):
            self.refuses("length", text, "ended")

    def test_units_of_other_sorts(self):
        for sort in ("letter", "other", "open", "close", "slot"):
            expander = Expander(scope_for())
            expander.push((other("1"), ("sign", "p", sort), ("sign", "t", sort)))
            self.assertEqual(expander.length(), 65536)
            expander.push((other("1"), ("sign", "u", sort), BLANK, BLANK))
            self.assertEqual((expander.length(), expander.take(), expander.take()), (1, BLANK, None))
        for row in ((other("1"), ("sign", "p", "active"), letter("t")), (other("1"), letter("p"), ("sign", "t", "active")),
                    (other("1"), ("sign", "u", "active")), (("sign", "1", "letter"), letter("u")), (other("1"), letter("."), other("5"), letter("p"))):
            expander = Expander(scope_for())
            expander.push(row)
            self.assertRaises(Fault, expander.length)

    def test_glue(self):
        full = Glue(65536, stretch=131072, stretch_order=1, shrink=1)
        for text, told, rest in (
                ("1pt", "1pt", ""), ("1ptx", "1pt", "x"), ("1pt plus 2pt", "1pt plus 2pt", ""), ("1ptplus2ptminus3pt", "1pt plus 2pt minus 3pt", ""),
                ("1pt minus 3u", "1pt minus 0.00005pt", ""), ("-1pt plus 1fil minus 1fill x", "-1pt plus 1fil minus 1fill", "x"),
                ("1pt plus 2filllx", "1pt plus 2filll", "x"), ("1pt plus 2filllly", "1pt plus 2filll", "ly"), ("1pt plus .5filminus\\length2y", "1pt plus 0.5fil minus 1.5pt", "y"),
                ("1pt plus -\\length4 x", "1pt plus 1pt", "x"), ("1pt plus + 2pt", "1pt plus 2pt", ""), ("1pt plus --2fil", "1pt plus 2fil", ""),
                ("1pt plus -0fil x", "1pt", "x"), ("1pt plus 2fil l", "1pt plus 2fil", "l"), ("1pt plus 2fil  minus 1pt ", "1pt plus 2fil minus 1pt", ""),
                ("1pt pls", "1pt", "pls"), ("1pt  pluX", "1pt", "pluX"), ("1pt p", "1pt", "p"), ("1pt  ", "1pt", ""), ("1pt minu", "1pt", "minu"),
                ("1pt plus 2pt plus 3pt", "1pt plus 2pt", "plus 3pt"), ("1pt minus 2pt plus 3pt", "1pt minus 2pt", "plus 3pt"), ("1pt minus 2pt minus 3pt", "1pt minus 2pt", "minus 3pt"),
                ("1pt\\plusword2pt", "1pt plus 2pt", ""), ("1pt\\none plus2pt", "1pt plus 2pt", ""), ("\\length2plus1pt x", "1.5pt plus 1pt", "x"), ("-\\length2 x", "-1.5pt", "x"),
                ("\\glue9x", "0pt", "x"), (" 1pt", "1pt", ""), ("1pt p\\none\\undefined", "1pt", "p\\undefined "), ("1pt PLUS2pt", "1pt", "PLUS2pt")):
            self.reads("glue", text, Glue.of_text(told), rest)
        self.reads("glue", "\\glue5x", full, "x")
        self.reads("glue", " \\glue5 plus1pt", full, "plus1pt")
        for text in ("x", "-\\glue5", "+\\glue5", "\\number3", "1pt plus x", "1pt plus -1pt", "1pt minus -1fil", "1pt plus \\length4", "1pt plus\\glue5", "1pt plus 1.fil",
                     "1pt plus 100000fil", "1pt plus 16384fil", "1pt minus 1f\\none x", "1pt plus 1fix", "1pt plus 1pX", "\\glue256", "\\keep\\glue5", "1pt plus minus", "16384pt",
                     "1pt plus 1f l"):
            self.refuses("glue", text, "number")
        for text in ("", " ", "\\none", "1", "1pt plus", "1pt plus ", "1pt plus 1", "1pt minus-", "1pt plus 1f", "1pt plus 1fi", "1pt minus 1p", "\\glue"):
            self.refuses("glue", text, "ended")

    def test_blanks_ahead_of_a_word_that_does_not_come(self):
        expander = Expander(scope_for())
        expander.push(row_of("1pt") + (BLANK, BLANK, BLANK, letter("m"), letter("i"), BLANK))
        self.assertEqual(expander.glue(), Glue(65536))
        self.assertEqual(asked(expander), (BLANK, BLANK, letter("m"), letter("i"), BLANK))
        expander.push(row_of("1pt") + (("sign", "p", "active"), letter("l"), letter("u"), letter("s"), other("1"), letter("u")))
        self.assertEqual(expander.glue(), Glue(65536))
        expander = Expander(scope_for())
        expander.push(row_of("1pt") + tuple([("sign", sign, "slot") for sign in "plus"]) + row_of("2fi") + (("sign", "l", "open"),))
        self.assertEqual(expander.glue(), Glue.of_text("1pt plus 2fil"))

    def test_ends_of_all_tokens(self):
        for kind, text, told in (("number", "5", 5), ("length", "5u", 5), ("glue", "5u", Glue(5)), ("glue", "5u plus 1fil", Glue(5, stretch=65536, stretch_order=1))):
            expander = Expander(scope_for())
            expander.push(row_of(text))
            self.assertEqual((getattr(expander, kind)(), expander.ask(), expander.take()), (told, None, None))


class Steps(Checks):
    def test_steps_are_counted(self):
        for text, many in (("", 0), ("ab", 0), ("\\none", 1), ("\\d x", 1), ("\\d{\\d x}", 3), ("\\after\\d\\none x", 3), ("\\digits\\number3", 1), ("\\iftrue a\\else b\\fi", 2),
                           ("\\iffalse\\d\\d\\d\\fi", 1), ("\\iffalse a\\else b\\fi", 2), ("\\ifnumber\\one<\\two\\fi", 6), ("\\keep\\d", 1), ("\\show\\d\\none", 2), ("\\value\\row6", 1)):
            with self.subTest(text):
                expander = Expander(scope_for())
                expander.whole(row_of(text))
                self.assertEqual(expander.steps, many)
                expander = expander_for(pushed=text)
                asked(expander)
                self.assertEqual(expander.steps, many)

    def test_limits(self):
        for text, many, told in (("\\none\\none\\none", 3, 0), ("\\d{\\d{\\none}}", 1 + 2 + 4, 0), ("\\ifnumber\\one<\\two\\fi", 6, 0), ("\\after\\d\\none x", 3, 2)):
            for limit in (many, many + 1, 100000):
                self.assertEqual(len(Expander(scope_for(), limit=limit).whole(row_of(text))), told)
            for limit in range(1, many):
                for run in (lambda: Expander(scope_for(), limit=limit).whole(row_of(text)), lambda: asked(expander_for(text + "`", limit=limit))):
                    with self.assertRaises(TooMany) as caught:
                        run()
                    self.assertEqual(caught.exception.limit, limit)

    def test_loops(self):
        for limit in (1, 1000, 100000):
            with self.assertRaises(TooMany) as caught:
                Expander(scope_for(), limit=limit).whole(row_of("\\loop"))
            self.assertEqual(caught.exception.limit, limit)

    def test_new_lines_of_the_source(self):
        expander = expander_for("\\none a\\none`\n\\none\\none b\nc\n", limit=2)
        told = []
        while (token := expander.ask()) is not None:
            told.append((token[1], expander.steps, expander.line))
        self.assertEqual(told, [("a", 1, 0), ("b", 2, 1), (" ", 2, 1), ("c", 0, 2), (" ", 0, 2)])

    def test_the_limit_is_for_each_line(self):
        text = "\\none\\none a`\n"
        self.assertEqual(len(asked(expander_for(text * 50, limit=2))), 50)
        with self.assertRaises(TooMany):
            asked(expander_for(text * 50 + "\\none\\none\\none", limit=2))

    def test_steps_made_ahead_of_what_is_taken(self):
        # The argument comes from a new line, so the step of the macro does not count for this line.
        expander = expander_for("x\\d`\n{ab}`\n")
        self.assertEqual([(expander.ask()[1], expander.steps, expander.line) for _ in range(2)], [("x", 0, 0), ("a", 0, 1)])
        expander = expander_for("\\none\\none\\d`\n{\\none\\none}`\n", limit=3)
        with self.assertRaises(TooMany):
            expander.ask()
        expander = expander_for("\\none\\none\\d`\n{\\none}`\n", limit=3)
        self.assertEqual((expander.ask(), expander.steps), (None, 2))

    def test_pushed_tokens_are_of_no_new_line(self):
        expander = expander_for("a\nb\n", limit=2)
        self.assertEqual(expander.ask(), letter("a"))
        expander.push(row_of("\\none\\none"))
        self.assertEqual((expander.ask(), expander.steps), (BLANK, 2))
        expander.push(row_of("\\none"))
        with self.assertRaises(TooMany):
            expander.ask()

    def test_whole_counts_as_well(self):
        expander = Expander(scope_for(), limit=3)
        expander.whole(row_of("\\none\\none"))
        self.assertEqual(expander.steps, 2)
        expander.whole(row_of("\\none"))
        self.assertEqual(expander.steps, 3)
        with self.assertRaises(TooMany):
            expander.whole(row_of("\\none"))

    def test_lines(self):
        expander = expander_for("a`\n\n\\d`\nx5`\n6`\n")
        told = [expander.line]
        for call in (expander.ask, expander.ask, expander.take, expander.ask, expander.number, expander.ask):
            call()
            told.append(expander.line)
        self.assertEqual(told, [-1, 0, 1, 2, 3, 4, 4])
        # A token that is put back has come.
        expander = expander_for("5`\nx\n")
        self.assertEqual((expander.number(), expander.line, expander.steps, expander.ask()), (5, 1, 0, letter("x")))
        expander = expander_for("\\after a`\n\\one`\n")
        self.assertEqual((expander.ask(), expander.line, expander.steps), (letter("a"), 1, 1))
        # One that is only looked at has not.
        expander = expander_for("\\after a`\nb\n")
        self.assertEqual((expander.ask(), expander.line), (letter("a"), 0))


class Sources(Checks):
    """Sources that come in pieces, and calls made again behind `WAITS`."""

    TEXTS = (
        "ab\\d{cd}e\n", "\\d`\nx\\swap a`\n{b c}`\n", "\\iffalse a\nb\\else c\nd\\fi e\n", "\\ifnumber`\n1\n<`\n2 a\\else b\\fi\n", "\\after\\d\\none`\nx\n",
        "\\name d\\endname`\n{x}\n", "\\upto a\nb.c\n", "\\digits\\number3\nx", "\\value\\glue5\n", "\\ifcase 1`\n a\\or`\nb\\else c\\fi", "\\keep`\n\\d\\show`\n\\d a\n",
        "\\iftrue\\iffalse\\else a\n\\fi b\\else\nc\\fi d", "~\\one\\two\n\n\\none\n",
    )

    def results(self, expander, feed, kinds):
        """What calls of these kinds tell, fed again whenever they wait; each with the line and the steps behind it."""
        found = []
        for kind in kinds:
            try:
                told = self.until_told(expander, feed, kind)
            except (Fault, BadUse) as error:
                return found + [vars(error)]
            found.append((kind, told, expander.line, expander.steps, expander.many_open))
            if told is None:
                return found
        return found

    def until_told(self, expander, feed, kind):
        state = (expander.line, expander.steps, expander.many_open)
        told = getattr(expander, kind)()
        while told == WAITS:
            self.assertEqual((expander.line, expander.steps, expander.many_open), state)
            feed()
            told = getattr(expander, kind)()
        return told

    def compare(self, text, kinds):
        expander = expander_for(text)
        told = self.results(expander, None, kinds)
        cuts = [[text[:cut], text[cut:]] for cut in range(len(text) + 1)] + [list(text)]
        for pieces in cuts:
            source = Reader()
            waiting = list(pieces)

            def feed():
                if waiting:
                    source.feed(waiting.pop(0))
                else:
                    source.finish()

            with self.subTest(text=text, pieces=pieces):
                self.assertEqual(self.results(Expander(scope_for(), source), feed, kinds), told)

    def test_all_texts(self):
        for text in self.TEXTS:
            self.compare(text, ["ask"] * 60)
            self.compare(text, ["take", "ask"] * 30)
            self.compare(text, ["take"] * 60)

    def test_quantities(self):
        for kind, text in (("number", "1`\n2\nx\n"), ("number", "-`\n\\number3`\nx"), ("length", "1`\n.5`\np`\nt`\nx\n"), ("length", "-\\length`\n2 x"),
                           ("glue", "1pt\nplus 2fi`\nl\nminus`\n3pt\nx\n"), ("glue", "1pt plu`\nx\n"), ("glue", "\\glue5`\n6\n"), ("number", "5"), ("glue", "5u")):
            self.compare(text, [kind] + ["ask"] * 10)
            self.compare(text, [kind] + ["take"] * 10)

    def test_faults_come_alike(self):
        for text in ("\\d\n", "\\name a\n\\par\n", "\\iffalse\n\n", "\\fi", "\\ifnumber 1\nx", "\\head a\nb"):
            for pieces in ([text], list(text)):
                source, found = Reader(), []
                expander = Expander(scope_for(), source)
                for piece in pieces:
                    source.feed(piece)
                    self.run_out(expander, found)
                source.finish()
                self.run_out(expander, found)
                self.assertEqual(found[:1], [self.fault_of(text)])

    def run_out(self, expander, found):
        try:
            asked(expander)
        except (Fault, BadUse) as error:
            found.append(vars(error))

    def fault_of(self, text):
        found = []
        self.run_out(expander_for(text), found)
        return found[0]

    def test_waits(self):
        source = Reader()
        expander = Expander(scope_for(), source)
        for call in (expander.ask, expander.take, expander.number, expander.length, expander.glue):
            self.assertEqual(call(), WAITS)
        source.feed("\\d`\n")
        self.assertEqual((expander.ask(), expander.line, expander.steps), (WAITS, -1, 0))
        self.assertEqual((expander.take(), expander.line), (word("d"), 0))
        source.feed("12`\n")
        self.assertEqual([expander.number(), expander.line], [WAITS, 0])
        source.finish()
        self.assertEqual([expander.number(), expander.line, expander.ask()], [12, 1, None])

    def test_what_can_still_belong(self):
        for kind, text, told in (("number", "12`\n", WAITS), ("number", "12\n", 12), ("number", "\\number3\n", -12), ("number", "\\number3`\n", WAITS),
                                 ("length", "1pt`\n", WAITS), ("length", "1pt\n", 65536), ("glue", "1pt\n", WAITS), ("glue", "1pt plus 1pt\n", WAITS),
                                 ("glue", "1pt minus 1pt\n", Glue(65536, shrink=65536)), ("glue", "1pt minus 1fill`\n", WAITS), ("glue", "\\glue5\n", None),
                                 ("glue", "1pt plus 1filllminus 1filll\n", Glue.of_text("1pt plus 1filll minus 1filll")), ("glue", "1ptplx\n", Glue(65536))):
            source = Reader()
            source.feed(text)
            expander = Expander(scope_for(), source)
            result = getattr(expander, kind)()
            self.assertEqual(result, Glue(65536, stretch=131072, stretch_order=1, shrink=1) if told is None else told)

    def test_what_the_source_told_stays_its_own(self):
        source = Reader()
        expander = Expander(scope_for(), source)
        source.feed("\\swap`\na`\n")
        self.assertEqual(expander.ask(), WAITS)
        expander.push(row_of("xy"))
        self.assertEqual([expander.take(), expander.take(), expander.line], [letter("x"), letter("y"), -1])
        self.assertEqual([expander.take(), expander.line, expander.take(), expander.line], [word("swap"), 0, letter("a"), 1])

    def test_conditions_are_as_they_were(self):
        source = Reader()
        expander = Expander(scope_for(), source)
        source.feed("\\iftrue a\\iffalse`\n")
        self.assertEqual((expander.ask(), expander.many_open), (letter("a"), 1))
        self.assertEqual((expander.ask(), expander.many_open, expander.steps), (WAITS, 1, 1))
        source.feed("\\else\\ifnumber 1`\n")
        self.assertEqual((expander.ask(), expander.many_open, expander.steps), (WAITS, 1, 1))
        source.feed("<2 b`\n")
        self.assertEqual((expander.ask(), expander.many_open), (letter("b"), 3))

    def test_one_token_is_asked_for_at_a_time(self):
        source = Reader()
        source.feed("a~\\none~\n")
        expander = Expander(scope_for(), source)
        self.assertEqual(expander.ask(), letter("a"))
        source.change("~", "letter")
        self.assertEqual(expander.ask(), letter("~"))
        source.change("~", "other")
        self.assertEqual(expander.ask(), other("~"))

    def test_the_scope_is_looked_at_when_it_is_needed(self):
        scope = scope_for()
        expander = Expander(scope)
        expander.push(row_of("\\e\\e"))
        self.assertEqual(expander.ask(), word("e"))
        scope.assign("meaning", word("e"), macro_for("", "z"))
        self.assertEqual(expander.ask(), letter("z"))


class Whole(Checks):
    def test_whole_is_what_is_asked_for(self):
        random = Random(43)
        parts = ("a", "b", " ", "1", "2", "-", "\\d", "\\none", "\\swap", "\\one", "\\upto", ".", "{", "}", "\\after", "\\keep", "\\show", "\\digits", "\\number", "\\value", "\\row6 ", "\\length2",
                 "\\iftrue", "\\iffalse", "\\else", "\\fi", "\\or", "\\ifodd", "\\ifcase", "\\ifsame", "\\ifsign", "\\ifnumber", "<", "\\name", "\\endname", "pt", "\\iflength", "\\fi", "\\fi", "\\else")
        fine = 0
        for _ in range(3000):
            row = row_of(" ".join([random.choice(parts) for _ in range(random.randrange(1, 12))]))
            one, other_one = [self.told(call, row) for call in (self.as_whole, self.one_by_one)]
            if one == (Fault, {"word": "ended"}) and not isinstance(other_one[0], type):
                # A condition is open at the end of the row, which is no fault of a single call.
                continue
            self.assertEqual(one, other_one)
            fine += not isinstance(one[0] if one else None, type)
        self.assertGreater(fine, 250)

    def told(self, call, row):
        try:
            return (tuple(call(row)), 0)
        except (Fault, BadUse, TooMany) as error:
            return (type(error), vars(error))

    def as_whole(self, row):
        return Expander(scope_for()).whole(row)

    def one_by_one(self, row):
        expander = Expander(scope_for())
        expander.push(row)
        return asked(expander)

    def test_all_else_stays(self):
        expander = expander_for("\\iftrue a\\number3x\ny")
        self.assertEqual(expander.ask(), letter("a"))
        expander.push(row_of("z"))
        for text in ("", "\\d x", "\\iftrue b\\else c\\fi", "\\digits 5"):
            expander.whole(row_of(text))
        self.assertEqual((expander.many_open, expander.line), (1, 0))
        self.assertEqual(text_of(asked(expander)), "z\\number 3x y ")

    def test_conditions_from_outside(self):
        for name in ("fi", "else", "or"):
            expander = expander_for(pushed="\\ifcase 0 a")
            expander.ask()
            with self.assertRaises(Fault) as caught:
                expander.whole(row_of(f"\\{name}"))
            self.assertEqual(caught.exception.word, "extra")
        for text in ("\\iftrue", "\\iftrue a\\iftrue\\fi", "\\iffalse\\else b"):
            expander = expander_for(pushed="\\iftrue a")
            expander.ask()
            with self.assertRaises(Fault) as caught:
                expander.whole(row_of(text))
            self.assertEqual(caught.exception.word, "ended")

    def test_no_source_and_nothing_pushed(self):
        expander = expander_for("x")
        expander.push(row_of("y"))
        with self.assertRaises(Fault) as caught:
            expander.whole(row_of("\\d"))
        self.assertEqual(caught.exception.word, "ended")
        source = Reader()
        self.assertEqual(Expander(scope_for(), source).whole(row_of("\\digits5")), (other("5"),))

    def test_many_tokens(self):
        scope = scope_for()
        scope.assign("meaning", word("k"), macro_of((), (letter("x"),) * 1000))
        self.assertEqual(len(Expander(scope).whole((word("k"),) * 5)), 5000)
        with self.assertRaises(TooMany) as caught:
            Expander(scope).whole((word("k"),) * 5 + (letter("x"),))
        self.assertEqual(caught.exception.limit, 5000)
        with self.assertRaises(Fault):
            Expander(scope).whole((word("k"),) * 6 + (word("fi"),))
        with self.assertRaises(Fault):
            Expander(scope).whole((word("iftrue"),) + (word("k"),) * 6)
        with self.assertRaises(TooMany) as caught:
            Expander(scope, limit=7).whole((word("k"),) * 8)
        self.assertEqual(caught.exception.limit, 7)


class Wrong(unittest.TestCase):
    def test_wrong_arguments(self):
        for value in ODD_VALUES:
            with self.subTest(value=value):
                if not isinstance(value, Scope):
                    with self.assertRaises(InvalidScope):
                        Expander(value, 1, limit=0)
                if value is not None and not isinstance(value, Reader):
                    with self.assertRaises(InvalidOperation):
                        Expander(Scope(), value, limit=0)
                if isinstance(value, bool) or not isinstance(value, int) or not 1 <= value <= 100000:
                    with self.assertRaises(InvalidNumber) as caught:
                        Expander(Scope(), None, limit=value)
                    self.assertIs(caught.exception.value, value)
                if value not in ((), (PAR,)):
                    expander = Expander(Scope())
                    self.assertRaises(InvalidRow, expander.push, value)
                    self.assertRaises(InvalidRow, expander.whole, value)
                    self.assertEqual((expander.ask(), expander.steps), (None, 0))
        for limit in (0, 100001, -1):
            with self.assertRaises(InvalidNumber):
                Expander(Scope(), limit=limit)

    def test_tokens_pushed_in_two_parts(self):
        expander = expander_for("z`")
        expander.push(row_of("x}w"))
        expander.push(row_of("\\d{"))
        self.assertEqual(text_of(asked(expander)), "xxwz")
        expander.push(row_of("b"))
        expander.push(row_of("a"))
        self.assertEqual([expander.take(), expander.ask(), expander.take()], [letter("a"), letter("b"), None])

    def test_nested_commands(self):
        for text, told in (("\\digits" * 48 + "7", "7"), ("\\after x" * 48 + "\\one", "x" * 48 + "1"), ("\\digits" + "\\number" * 48 + "9", "0"),
                           ("\\after\\after\\after\\d\\after\\d\\none x", "xxx")):
            self.assertEqual(whole(text), told)
        row = (other("1"),)
        for _ in range(24):
            row = (word("digits"), word("ifodd"), *row, BLANK, other("1"), word("fi"), BLANK)
        self.assertEqual(Expander(scope_for()).whole(row), (other("1"),))

    def test_it_is_not_iterated_over(self):
        self.assertRaises(TypeError, iter, Expander(Scope()))


if __name__ == "__main__":
    unittest.main()
