"""[4.1] to [4.5] and all that stands below "Stage 4: macros"."""

import unittest
from itertools import product
from random import Random

from odd_values import ODD_VALUES
from pagewright.errors import BadUse, InvalidMacro, InvalidNumber, InvalidOperation, InvalidRow, TooMany, Unfinished
from pagewright.macro import macros as module
from pagewright.macro.macros import Macro, Match, filled, macro_of, match_macro, put_back, rows_of
from pagewright.text.reader import tokens_of

LEFT, RIGHT = ("sign", "{", "open"), ("sign", "}", "close")
BLANK, PAR, HI = ("sign", " ", "blank"), ("word", "par"), ("word", "hi")
HASH = ("sign", "#", "slot")
ONE, TWO = ("slot", 1), ("slot", 2)


def letter(sign):
    return ("sign", sign, "letter")


def row_of(text):
    """A row from a short text: `P` is the paragraph word, `(` and `)` are other braces, all else is as plain."""
    special = {"{": LEFT, "}": RIGHT, " ": BLANK, "P": PAR, "#": HASH, "(": ("sign", "(", "open"), ")": ("sign", ")", "close")}
    return tuple([special.get(sign) or ("sign", sign, "letter" if sign.isalpha() else "other") for sign in text])


def macro_for(parameters, body="", is_long=False):
    return macro_of(row_of(parameters), row_of(body), is_long=is_long)


def depth_of(tokens):
    return sum([{"open": 1, "close": -1}.get(token[-1], 0) for token in tokens if token[0] == "sign"])


def end_of_group(row, start):
    """The index of the close token of the group that begins at an index; None without one."""
    for end in range(start + 1, len(row)):
        if depth_of(row[start:end + 1]) == 0:
            return end
    return None


class NotDone(Exception):
    """What the plain match raises: the index of a bad use, or None if the row ends too early."""


def plain_match(macro, row, start):
    """The match by [4.2], looked for with slices of the row: the arguments, the seams and the stop."""
    at, found, seams = start, [], []
    for token in macro.head:
        if at == len(row):
            raise NotDone(None)
        if row[at] != token:
            raise NotDone(at)
        at += 1
    for delimiter in macro.delimiters:
        if delimiter:
            argument, seam, at = plain_delimited(macro, row, at, delimiter)
        else:
            argument, seam, at = plain_argument(macro, row, at)
        found.append(argument)
        seams.append(seam)
    return tuple(found), tuple(seams), at


def plain_argument(macro, row, at):
    blanks = 0
    while at < len(row) and row[at] == BLANK:
        at, blanks = at + 1, blanks + 1
    if at == len(row):
        raise NotDone(None)
    if row[at][-1] == "close":
        raise NotDone(at)
    end = end_of_group(row, at) if row[at][-1] == "open" else at
    for index in range(at, len(row) if end is None else end + 1):
        if row[index] == PAR and not macro.is_long:
            raise NotDone(index)
    if end is None:
        raise NotDone(None)
    if end == at:
        return (row[at],), (blanks, None), at + 1
    return row[at + 1:end], (blanks, (row[at], row[end])), end + 1


def plain_delimited(macro, row, start, delimiter):
    for at in range(start, len(row) + 1):
        if depth_of(row[start:at]) == 0:
            rest = row[at:at + len(delimiter)]
            if rest == delimiter:
                argument = row[start:at]
                if argument and argument[0][-1] == "open" and end_of_group(argument, 0) == len(argument) - 1:
                    return argument[1:-1], (0, (argument[0], argument[-1])), at + len(delimiter)
                return argument, (0, None), at + len(delimiter)
            if rest == delimiter[:len(rest)]:
                raise NotDone(None)
        if at == len(row):
            raise NotDone(None)
        if (row[at] == PAR and not macro.is_long) or (row[at][-1] == "close" and depth_of(row[start:at]) == 0):
            raise NotDone(at)
    raise AssertionError("the last round ends")


MACROS = [macro_for(parameters, "", is_long) for is_long in (False, True) for parameters in (
    "", "a", "ab", "#1", "#1#2", "a#1", "#1a", "#1ab", "#1aab", "#1 ", "#1P", "#1aP", "#1a#2", "#1#2a", "a#1b#2", "a#1a#2a",
    "#1a#2b#3", " #1", "#1b b#2", "#1aba",
)]


class Examples(unittest.TestCase):
    def test_examples(self):
        row = tokens_of("ab{c d}e{f}.gh`")
        macro = macro_of(tokens_of("a#1e#2.`"), tokens_of("[#2|#1|##]`"))
        self.assertEqual([len(macro), macro.head, macro.delimiters, str(macro)],
                         [2, (letter("a"),), ((letter("e"),), (("sign", ".", "other"),)), "macro with 2 slots, body of 7"])
        match = match_macro(macro, row, 0)
        told = [match.arguments[1], len(match.arguments[0]), match.seams == ((0, None), (0, (LEFT, RIGHT))), match.stop,
                put_back(macro, match) == row[:12]]
        self.assertEqual(told, [(letter("f"),), 6, True, 12, True])
        told = ["".join([token[1] for token in filled(macro, match.arguments)]), rows_of(macro)[0] == tokens_of("a#1e#2.`")]
        self.assertEqual(told, ["[f|b{c d}|#]", True])
        plain = macro_of(tokens_of("#1#2`"), tokens_of("#2#1`"))
        told = [match_macro(plain, tokens_of("x {y}z`"), 0).seams == ((0, None), (1, (LEFT, RIGHT))),
                match_macro(plain, tokens_of("x {y}z`"), 0).stop]
        self.assertEqual(told, [True, 5])
        with self.assertRaises(BadUse):
            match_macro(plain, tokens_of("x}`"), 0)
        with self.assertRaises(Unfinished):
            match_macro(macro, tokens_of("ab{e`"), 0)

    def test_constant(self):
        self.assertEqual(module.MAX_SLOTS, 9)


class Made(unittest.TestCase):
    def test_parts(self):
        slots, body = (HI, ONE, TWO, letter("a"), BLANK), (TWO, HASH, LEFT, ONE, RIGHT)
        macro = Macro(slots, body, is_long=True)
        self.assertEqual((macro.slots, macro.body, macro.is_long), (slots, body, True))
        self.assertEqual((macro.head, macro.delimiters, len(macro)), ((HI,), ((), (letter("a"), BLANK)), 2))
        self.assertEqual((list(macro), tuple(macro)), ([(), (letter("a"), BLANK)], macro.delimiters))
        self.assertEqual(str(macro), "macro with 2 slots, body of 5")
        empty = Macro((), ())
        self.assertEqual((empty.head, empty.delimiters, len(empty), list(empty), empty.is_long), ((), (), 0, [], False))

    def test_limits(self):
        nine = tuple([("slot", number) for number in range(1, 10)])
        self.assertEqual(len(Macro(nine, nine)), 9)
        self.assertEqual(len(Macro((HI,) * 191 + nine, (HI,) * 1000).head), 191)
        for slots, body in (((HI,) * 192 + nine, ()), ((HI,) * 201, ()), ((), (HI,) * 1001), (nine + (("slot", 10),), ())):
            self.assertRaises(InvalidMacro, Macro, slots, body)

    def test_wrong_parameters(self):
        for slots in ((TWO,), (ONE, ONE), (TWO, ONE), (ONE, ("slot", 3)), (("slot", 0),), (("slot", True),), (("slot", "1"),),
                      (("slot",),), (("slot", 1, 1),), (LEFT,), (RIGHT,), (HASH,), (("sign", "x", "slot"),), (LEFT, RIGHT),
                      ("a",), (ONE, "a"), (ONE, ()), (None,), (["slot", 1],), (("sign", "x", "blank"),)):
            with self.subTest(slots):
                self.assertRaises(InvalidMacro, Macro, slots, ())

    def test_wrong_bodies(self):
        for body in ((TWO,), (LEFT,), (RIGHT,), (RIGHT, LEFT), (LEFT, ONE), (("slot", 0),), (("slot", True),), ("a",),
                     (ONE, None), (ONE, ("sign", "x", "blank")), ([],)):
            with self.subTest(body):
                self.assertRaises(InvalidMacro, Macro, (ONE,), body)
        self.assertEqual(Macro((ONE,), (ONE, ONE, HASH, LEFT, ONE, RIGHT)).body[0], ONE)

    def test_wrong_values(self):
        for value in ODD_VALUES:
            with self.subTest(value=value):
                if value not in ((), (PAR,)):
                    self.assertRaises(InvalidMacro, Macro, value, ())
                    self.assertRaises(InvalidMacro, Macro, (), value)
                if not isinstance(value, bool):
                    with self.assertRaises(InvalidMacro):
                        Macro((), (), is_long=value)
                    with self.assertRaises(InvalidMacro):
                        macro_of((), (), is_long=value)

    def test_equality(self):
        made = [Macro(slots, body, is_long=is_long) for slots in ((), (ONE,), (HI, ONE)) for body in ((), (HI,))
                for is_long in (False, True)]
        for (first, one), (second, other) in product(enumerate(made), repeat=2):
            self.assertIs(one == other, first == second)
            self.assertIs(one != other, first != second)
        self.assertEqual(Macro((ONE,), (ONE,)), Macro((ONE,), (ONE,)))
        for value in ODD_VALUES:
            if not isinstance(value, Macro):
                self.assertIs(Macro((), ()) == value, False)

    def test_it_never_changes(self):
        for name in ("slots", "body", "is_long", "head", "delimiters"):
            with self.assertRaises(AttributeError):
                setattr(Macro((), ()), name, ())


class Rows(unittest.TestCase):
    def test_slots_and_doubled_tokens(self):
        other = ("sign", "&", "slot")
        for body, told in (((HASH, ("sign", "1", "other")), (ONE,)), ((other, ("sign", "1", "other")), (ONE,)),
                           ((HASH, HASH), (HASH,)), ((HASH, other), (other,)), ((HASH, HASH, HASH, HASH), (HASH, HASH)),
                           ((HASH, HASH, ("sign", "1", "other")), (HASH, ("sign", "1", "other"))),
                           ((HASH, HASH, HASH, ("sign", "1", "other")), (HASH, ONE))):
            self.assertEqual(macro_of((HASH, ("sign", "1", "other")), body).body, told)

    def test_rows_that_tell_no_macro(self):
        for parameters, body in (("#", ""), ("##", ""), ("#2", ""), ("#1#1", ""), ("#0", ""), ("#a", ""), ("# 1", ""), ("{", ""),
                                 ("#1}", ""), ("#1##", ""), ("", "#"), ("", "#1"), ("#1", "#2"), ("#1", "#0"), ("#1", "# 1"),
                                 ("#1", "a#"), ("#1", "###"), ("#1", "#{1}"), ("", "{"), ("", "}"), ("", "}{"), ("#1", "#a")):
            with self.subTest(parameters=parameters, body=body):
                self.assertRaises(InvalidMacro, macro_for, parameters, body)
        self.assertRaises(InvalidMacro, macro_of, (HASH, letter("1")), ())
        self.assertRaises(InvalidMacro, macro_of, (HASH, ("word", "1")), ())

    def test_limits(self):
        self.assertEqual(len(macro_of((), (HASH,) * 2000).body), 1000)
        for parameters, body in (((), (HASH,) * 2002), ((HI,) * 201, ()), ((), (HI,) * 1001), ((), (HI,) * 5000)):
            self.assertRaises(InvalidMacro, macro_of, parameters, body)
        self.assertRaises(InvalidRow, macro_of, (), (HI,) * 5001)

    def test_wrong_rows(self):
        for value in ODD_VALUES:
            if value not in ((), (PAR,)):
                self.assertRaises(InvalidRow, macro_of, value, ())
                self.assertRaises(InvalidRow, macro_of, (HASH,), value)
                self.assertRaises(InvalidRow, macro_of, value, (HASH,))
            if not isinstance(value, Macro):
                self.assertRaises(InvalidMacro, rows_of, value)
        self.assertRaises(InvalidRow, macro_of, (ONE,), ())

    def test_rows_of(self):
        self.assertEqual(rows_of(Macro((HI, ONE, TWO), (TWO, HASH, LEFT, RIGHT))),
                         ((HI,) + row_of("#1#2"), row_of("#2##{}")))
        self.assertEqual(rows_of(Macro((), (("sign", "&", "slot"),)))[1], (HASH, ("sign", "&", "slot")))
        nine = tuple([("slot", number) for number in range(1, 10)])
        self.assertEqual(rows_of(Macro(nine, nine[::-1])), (row_of("#1#2#3#4#5#6#7#8#9"), row_of("#9#8#7#6#5#4#3#2#1")))

    def test_they_lead_back(self):
        for macro in MACROS + [Macro((ONE, HI, TWO), (HASH, TWO, HASH, HASH, LEFT, ONE, RIGHT, ("sign", "1", "other")))]:
            self.assertEqual(macro_of(*rows_of(macro), is_long=macro.is_long), macro)
        self.assertFalse(macro_of(*rows_of(Macro((), (), is_long=True))).is_long)


class Matches(unittest.TestCase):
    """Matches in rows, checked against the plain match."""

    def told(self, macro, row, start):
        try:
            match = match_macro(macro, row, start)
        except BadUse as error:
            return error.number
        except Unfinished:
            return None
        return (match.arguments, match.seams, match.stop)

    def check(self, macro, row, start):
        try:
            told = plain_match(macro, row, start)
        except NotDone as error:
            told = error.args[0]
        self.assertEqual(self.told(macro, row, start), told, (macro.slots, row, start))
        return told

    def test_all_short_rows(self):
        for many in range(6):
            for signs in product("ab{} P" if many < 5 else "a{} ", repeat=many):
                row = row_of(signs)
                for macro in MACROS:
                    self.check(macro, row, 0)

    def test_random_rows(self):
        random = Random(31)
        for _ in range(6000):
            row = row_of([random.choice("aaabb{}{}() P.") for _ in range(random.randrange(25))])
            macro, start = random.choice(MACROS), random.randint(0, len(row))
            told = self.check(macro, row, start)
            if isinstance(told, tuple):
                self.check_parts(macro, row, start, told)

    def check_parts(self, macro, row, start, told):
        """[4.5], and what the body becomes."""
        match = match_macro(macro, row, start)
        self.assertEqual(put_back(macro, match), row[start:told[2]])
        for argument in match.arguments:
            self.assertEqual(depth_of(argument), 0)
            self.assertTrue(all([depth_of(argument[:end]) >= 0 for end in range(len(argument))]))
        longest = Macro(macro.slots, (HI,) + tuple([("slot", k + 1) for k in range(len(macro))][::-1]))
        self.assertEqual(filled(longest, match.arguments), sum(match.arguments[::-1], (HI,)))

    def test_whoever_has_more_finds_the_same(self):
        random = Random(37)
        for _ in range(1500):
            row = row_of([random.choice("aabb{} P") for _ in range(random.randrange(14))])
            macro = random.choice(MACROS)
            whole = self.told(macro, row, 0)
            for end in range(len(row)):
                part = self.told(macro, row[:end], 0)
                if part is not None:
                    self.assertEqual(part, whole)

    def test_no_bad_use_is_looked_for_ahead_of_a_delimiter(self):
        par = macro_for("#1Pa")
        for text, told in (("b", None), ("bP", None), ("bPb", 1), ("bPa", 3), ("b}", 1), ("bP}", 1)):
            found = self.told(par, row_of(text), 0)
            self.assertEqual(found[2] if isinstance(found, tuple) else found, told)

    def test_bad_uses(self):
        for parameters, text, told in (("ab", "aab", 1), ("a#1", "b", 0), ("#1", "  }", 2), ("#1", "P", 0), ("#1", "{aPa}", 2),
                                       ("#1", "{aP", 2), ("#1a", "b}a", 1), ("#1a", "{b}}a", 3), ("#1a", "bPa", 1), ("#1a", "{bPb}a", 2),
                                       ("#1#2", "aP", 1), ("#1#2", "a }", 2)):
            with self.subTest(parameters=parameters, text=text):
                row = row_of(text)
                for ahead in ((), (HI,), (RIGHT, PAR)):
                    self.assertEqual(self.told(macro_for(parameters), ahead + row, len(ahead)), told + len(ahead))
                for end in range(told + 1):
                    self.assertIsNone(self.told(macro_for(parameters), row[:end], 0))

    def test_long_macros(self):
        for parameters, text in (("#1", "P"), ("#1", "{aPa}"), ("#1a", "bPa"), ("#1a", "{P}a"), ("#1a", "Pa")):
            row = row_of(text)
            self.assertEqual(match_macro(macro_for(parameters, "", True), row, 0).stop, len(row))
            self.assertRaises(BadUse, match_macro, macro_for(parameters), row, 0)
        self.assertEqual(match_macro(macro_for("P#1P"), row_of("PaP"), 0).stop, 3)

    def test_braces_are_taken_off_once(self):
        for parameters, text, argument in (("#1", "{{a}}", "{a}"), ("#1a", "{{b}}a", "{b}"), ("#1a", "{b}{b}a", "{b}{b}"),
                                           ("#1a", "{b} a", "{b} "), ("#1a", " {b}a", " {b}"), ("#1", "{}", ""), ("#1a", "{}a", ""),
                                           ("#1a", "a", ""), ("#1", "(b}", "b"), ("#1a", "({b}}a", "{b}"), ("#1a", "{}{}a", "{}{}")):
            with self.subTest(parameters=parameters, text=text):
                match = match_macro(macro_for(parameters), row_of(text), 0)
                self.assertEqual(match.arguments, (row_of(argument),))
                self.assertEqual(put_back(macro_for(parameters), match), row_of(text))

    def test_long_rows(self):
        macro = macro_for("#1ab#2")
        row = row_of("{" + "a" * 2400 + "}" + "aa" * 1290 + "ab  b")
        match = match_macro(macro, row, 0)
        self.assertEqual((match.stop, match.seams), (len(row), ((0, None), (2, None))))
        self.assertEqual(put_back(macro, match), row)

    def test_wrong_arguments(self):
        macro, row = macro_for("#1"), row_of("ab")
        for value in ODD_VALUES:
            if not isinstance(value, Macro):
                self.assertRaises(InvalidMacro, match_macro, value, None, None)
            if value not in ((), (PAR,)):
                self.assertRaises(InvalidRow, match_macro, macro, value, None)
            if isinstance(value, bool) or value not in (0, 1):
                with self.assertRaises(InvalidNumber) as caught:
                    match_macro(macro, row, value)
                self.assertIs(caught.exception.value, value)
        for start in (3, -1, True):
            self.assertRaises(InvalidNumber, match_macro, macro, row, start)
        self.assertRaises(Unfinished, match_macro, macro, row, 2)


class Filling(unittest.TestCase):
    def test_match_objects(self):
        match = Match(((HI,),), ((0, None),), 3)
        self.assertEqual((match.arguments, match.seams, match.stop), (((HI,),), ((0, None),), 3))
        self.assertEqual(match, Match(((HI,),), ((0, None),), 3))
        for other in (Match((), ((0, None),), 3), Match(((HI,),), (), 3), Match(((HI,),), ((0, None),), 4)):
            self.assertIs(match == other, False)
            self.assertIs(match != other, True)
        for value in ODD_VALUES:
            self.assertIs(match == value, False)
            self.assertEqual(Match(value, value, value).seams, value)

    def test_put_back_of_told_matches(self):
        macro = macro_for("a#1#2b")
        match = Match((row_of("x"), row_of("y}")), ((2, (LEFT, RIGHT)), (1, None)), None)
        self.assertEqual(put_back(macro, match), row_of("a  {x} y}b"))

    def test_wrong_matches(self):
        macro = macro_for("#1")
        seam = (0, None)
        for match in (Match((), (seam,), 0), Match(((),), (), 0), Match(((), ()), (seam, seam), 0), Match([()], (seam,), 0),
                      Match(((),), [seam], 0), Match((None,), (seam,), 0), Match((("a",),), (seam,), 0), Match(((HI,) * 5001,), (seam,), 0),
                      Match(((),), (None,), 0), Match(((),), ((-1, None),), 0), Match(((),), ((True, None),), 0),
                      Match(((),), ((0,),), 0), Match(((),), ((0, ()),), 0), Match(((),), ((0, (LEFT,)),), 0),
                      Match(((),), ((0, (RIGHT, LEFT)),), 0), Match(((),), ((0, (LEFT, HI)),), 0), Match(((),), ((0, (HI, RIGHT)),), 0),
                      Match(((),), ((0, [LEFT, RIGHT]),), 0), Match(((),), ([0, None],), 0), Match(((),), (("0", None),), 0),
                      Match(((),), ((10 ** 60, None),), 0), Match(((),), ((0, None, None),), 0)):
            self.assertRaises(InvalidOperation, put_back, macro, match)
        for value in ODD_VALUES:
            self.assertRaises(InvalidOperation, put_back, macro, value)
            if not isinstance(value, Macro):
                self.assertRaises(InvalidMacro, put_back, value, None)
                self.assertRaises(InvalidMacro, filled, value, None)

    def test_filled(self):
        macro = macro_for("#1#2", "a#2b#1#2##")
        self.assertEqual(filled(macro, (row_of("x"), row_of("{y}"))), row_of("a{y}bx{y}#"))
        self.assertEqual(filled(macro, ((), ())), row_of("ab#"))
        self.assertEqual(filled(macro_for("", "{ }"), ()), row_of("{ }"))

    def test_wrong_arguments(self):
        macro = macro_for("#1", "#1")
        for arguments in ((), ((), ()), [()], (LEFT,), ((LEFT,),), ((RIGHT,),), ((RIGHT, LEFT),), (("a",),), ((HI,) * 5001,), ((ONE,),)):
            self.assertRaises(InvalidOperation, filled, macro, arguments)
        for value in ODD_VALUES:
            if value != ((),):
                self.assertRaises(InvalidOperation, filled, macro, value)
            if value not in ((), (PAR,)):
                self.assertRaises(InvalidOperation, filled, macro, (value,))

    def test_limits(self):
        macro = macro_for("#1#2", "#1#2")
        self.assertEqual(len(filled(macro, ((HI,) * 4999, (HI,)))), 5000)
        for arguments in (((HI,) * 5000, (HI,)), ((HI,) * 5000, (HI,) * 5000)):
            with self.assertRaises(TooMany) as caught:
                filled(macro, arguments)
            self.assertEqual(caught.exception.limit, 5000)
        self.assertRaises(InvalidOperation, filled, macro, ((HI,) * 5000, (LEFT,)))
        seams = ((0, None), (1, (LEFT, RIGHT)))
        self.assertEqual(len(put_back(macro, Match(((HI,) * 4990, (HI,) * 7), seams, 0))), 5000)
        for match in (Match(((HI,) * 4990, (HI,) * 8), seams, 0), Match(((), ()), ((0, None), (10 ** 59, None)), 0),
                      Match(((), ()), ((2500, None), (2501, None)), 0)):
            with self.assertRaises(TooMany) as caught:
                put_back(macro, match)
            self.assertEqual(caught.exception.limit, 5000)
        self.assertEqual(len(put_back(macro, Match(((), ()), ((2500, None), (2500, None)), 0))), 5000)


if __name__ == "__main__":
    unittest.main()
