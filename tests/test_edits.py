"""[18.1] to [18.5] and all that stands below "Stage 18: edits"."""

import unittest
from random import Random

from drawn_texts import PAGE, STYLES, TEN, drawn_text
from odd_values import ODD_VALUES
from pagewright.base.glue import Glue
from pagewright.errors import InvalidDocument, InvalidNumber, InvalidPage, InvalidRules, UnknownName
from pagewright.font.fonts import Font
from pagewright.line.styles import Style
from pagewright.page.builder import PageStyle
from pagewright.press import edits as module
from pagewright.press.edits import Document, first_difference
from pagewright.press.press import Press, set_text


def made(lines):
    return Document(lines, STYLES, "ten", PAGE)


def drawn_lines(draw, most=8):
    while True:
        lines = tuple(drawn_text(draw, most).split("\n"))[:20]
        if all([len(line) <= 200 for line in lines]):
            return lines


def rests_of(lines):
    """The rest places by [18.2]: a press that is fed so far, and whose text then ends in another way, tells whether a deed waits."""
    found = []
    for place in range(len(lines) + 1):
        press = Press(STYLES, "ten", PAGE)
        press.feed("".join([line + "\n" for line in lines[:place]]))
        if press.is_stopped or press._engine.machine.is_empty():
            found.append(place)
    return tuple(found)


class Examples(unittest.TestCase):
    def test_all(self):
        font = Font("ten", {"a": (10, 6, 0), "b": (10, 8, 2)}, {})
        styles, page = {"ten": Style(font, (55,), Glue(10, stretch=5, shrink=2), skip=Glue(12))}, PageStyle(30)
        document = Document(("a`", "b", "", "a"), styles, "ten", page)
        self.assertEqual(
            [document.rests, document.edit(0, 1, ("a`x",)), document.edit(1, 1, ("bb",)), document.work, len(document.pages), document.log,
             document.pages == set_text(document.text, styles, "ten", page)[0]],
            [(0, 1, 2, 3, 4), (0, 1), (1, None), 8, 1, (), True])

    def test_constants(self):
        self.assertEqual((module.MAX_LINES, module.MAX_COLUMNS), (400, 200))


class Documents(unittest.TestCase):
    LINES = ("ab aab", "\\rowbox{a}\\penalty-10000 ", "", "b c")

    def test_properties(self):
        document = made(self.LINES)
        self.assertEqual((document.lines, document.text, document.rests, document.work), (self.LINES, "".join([line + "\n" for line in self.LINES]), (0, 1, 2, 3, 4), 4))
        self.assertEqual((document.pages, document.log), set_text(document.text, STYLES, "ten", PAGE))
        self.assertEqual((len(document), list(document), str(document)), (4, list(self.LINES), f"document of 4 lines, {len(document.pages)} pages"))
        self.assertIn("b c", document)
        for value in ("b", "ab aab\n", *ODD_VALUES):
            if value != "":
                self.assertNotIn(value, document)
        self.assertEqual([document.pages_ahead(place) for place in document.rests], [0, 0, 0, 0, 0])
        document = made(("\\rowbox{a}\\penalty-10000",) * 3)
        self.assertEqual(([document.pages_ahead(place) for place in document.rests], len(document.pages)), ([0, 1, 2, 3], 3))

    def test_empty(self):
        document = made(())
        self.assertEqual((document.lines, document.text, document.pages, document.log, document.rests, document.work, str(document)), ((), "", (), (), (0,), 0, "document of 0 lines, 0 pages"))
        self.assertEqual((document.edit(0, 0, ()), document.edit(0, 0, ("a",)), len(document.pages), document.work), ((0, 0), (0, None), 1, 1))

    def test_equality(self):
        document = made(self.LINES)
        self.assertTrue(document == made(tuple(list(self.LINES))))
        for other in (made(self.LINES[:3]), Document(self.LINES, {"ten": STYLES["ten"]}, "ten", PAGE), Document(self.LINES, STYLES, "wide", PAGE),
                      Document(self.LINES, STYLES, "ten", PageStyle(41)), Document(self.LINES, STYLES, "ten", PAGE, limit=999), *ODD_VALUES):
            self.assertTrue(document != other)
        other = made(self.LINES[:3])
        other.edit(3, 0, self.LINES[3:])
        self.assertTrue(document == other)

    def test_twins(self):
        document = made(self.LINES)
        document.edit(0, 0, ("a",))
        twin = document.twin()
        self.assertTrue(twin == document)
        self.assertEqual((twin.work, twin.pages, twin.log, twin.rests), (0, document.pages, document.log, document.rests))
        twin.edit(0, 3, ())
        self.assertEqual((document.lines, twin.lines), (("a",) + self.LINES, self.LINES[2:]))
        self.assertEqual((document.pages, twin.pages), (made(document.lines).pages, made(twin.lines).pages))
        self.assertEqual((document.work, twin.work), (9, 2))

    def test_styles_are_not_shared(self):
        styles = dict(STYLES)
        document = Document(("a",), styles, "ten", PAGE)
        styles.clear()
        document.edit(0, 1, ("b",))
        self.assertEqual((document.log, len(document.pages)), ((), 1))


class Wrong(unittest.TestCase):
    def test_lines(self):
        wrong = [[], ["a"], "a", ("a", None), ("a\n",), ("\t",), ("%",), ("a" * 201,), ("",) * 401, ("a" * 199,) * 101, ("a" * 200,) * 99 + ("a" * 101,), (("a",),), ("\x7f",)]
        for value in (*wrong, *[value for value in ODD_VALUES if not isinstance(value, tuple) or value[:1] not in ((), ("word",), ("sign",))]):
            self.assertRaises(InvalidDocument, Document, value, None, None, None, limit=None)
            document = made(("a", "b"))
            with self.assertRaises(InvalidDocument):
                document.edit(1, 1, value)
            self.assertEqual((document.lines, document.work), (("a", "b"), 2))
        for lines in (("",) * 400, ("`" * 200,) * 99 + ("`" * 100,), ("`" + "~" * 199,)):
            self.assertEqual(made(lines).lines, lines)

    def test_edited_lines(self):
        document = made(("",) * 399)
        document.edit(5, 0, ("",))
        self.assertRaises(InvalidDocument, document.edit, 5, 0, ("",))
        self.assertRaises(InvalidDocument, document.edit, 5, 1, ("", ""))
        document.edit(5, 1, ("`",))
        document = made(("`" * 199,) * 99)
        document.edit(0, 0, ("`" * 199,))
        self.assertRaises(InvalidDocument, document.edit, 0, 0, ("",))
        self.assertEqual(len(document), 100)

    def test_arguments(self):
        for value in ODD_VALUES:
            self.assertRaises(InvalidRules, Document, ("a",), value, None, None, limit=None)
            self.assertRaises(UnknownName, Document, ("a",), STYLES, value, None, limit=None)
            self.assertRaises(InvalidPage, Document, ("a",), STYLES, "ten", value, limit=None)
            if value not in (1, 7) or isinstance(value, bool):
                self.assertRaises(InvalidNumber, lambda: Document(("a",), STYLES, "ten", PAGE, limit=value))

    def test_edits(self):
        document = made(("a", "b", "c"))
        for value in (*ODD_VALUES, 4, -1):
            if value not in (0, 1) or isinstance(value, bool):
                with self.assertRaises(InvalidNumber) as caught:
                    document.edit(value, None, None)
                self.assertIs(caught.exception.value, value)
                with self.assertRaises(InvalidNumber) as caught:
                    document.edit(2, value, None)
                self.assertIs(caught.exception.value, value)
        self.assertRaises(InvalidNumber, document.edit, 2, 2, ())
        self.assertRaises(InvalidNumber, document.edit, 3, 1, ())
        self.assertEqual((document.lines, document.work), (("a", "b", "c"), 3))

    def test_places(self):
        document = made(("\\define\\x{", "a}", "\\x"))
        self.assertEqual(document.rests, (0, 2, 3))
        for ask in (document.state_ahead, document.pages_ahead):
            for value in (*ODD_VALUES, 1, 4, -1):
                if value != 0 or isinstance(value, bool):
                    with self.assertRaises(InvalidNumber) as caught:
                        ask(value)
                    self.assertIs(caught.exception.value, value)

    def test_differences(self):
        one = made(("a", "b", "c"))
        for lines, told in ((("a", "b", "c"), None), (("a", "b"), 2), (("a", "b", "c", "d"), 3), (("x", "b", "c"), 0), ((), 0), (("a", "x", "c"), 1)):
            self.assertEqual((first_difference(one, made(lines)), first_difference(made(lines), one)), (told, told))
        for value in ODD_VALUES:
            self.assertRaises(InvalidDocument, first_difference, value, one)
            self.assertRaises(InvalidDocument, first_difference, one, value)


class Edits(unittest.TestCase):
    def check(self, document):
        """All is as in a document that is made of the lines anew [18.5]."""
        other = made(document.lines)
        self.assertEqual((document.pages, document.log, document.rests), (other.pages, other.log, other.rests), document.lines)
        for place in document.rests:
            self.assertTrue(document.state_ahead(place) == other.state_ahead(place), (document.lines, place))
            self.assertEqual(document.pages_ahead(place), other.pages_ahead(place), (document.lines, place))
        return other

    def drawn_come(self, draw, document, line, gone):
        chance = draw.random()
        old = document.lines[line:line + gone]
        if chance < 0.2:
            return old
        if chance < 0.4:
            return tuple([draw.choice(("`x", "`")) for _ in range(draw.randint(0, 2))]) + old
        if chance < 0.5:
            return tuple([text.replace("a", "b") for text in old])
        return drawn_lines(draw)[:draw.randint(0, 3)]

    def test_drawn(self):
        draw, ends = Random(80), {"none": 0, "last": 0, "kept": 0}
        for _ in range(110):
            document = made(drawn_lines(draw))
            self.assertEqual((document.pages, document.log), set_text(document.text, STYLES, "ten", PAGE))
            self.assertEqual(document.rests, rests_of(document.lines))
            for _ in range(4):
                old, work = document.twin(), document.work
                line = draw.randint(0, len(old))
                gone = draw.randint(0, min(3, len(old) - line))
                come = self.drawn_come(draw, document, line, gone)
                begin, end = document.edit(line, gone, come)
                self.assertEqual(document.lines, old.lines[:line] + come + old.lines[line + gone:])
                other = self.check(document)
                self.assertEqual(begin, max([place for place in old.rests if place <= line]))
                shift = len(come) - gone
                told = [place for place in other.rests if place >= line + len(come) and place - shift in old.rests
                        and other.state_ahead(place) == old.state_ahead(place - shift)]
                self.assertEqual(end, min(told, default=None))
                self.assertEqual(document.work - work, (len(document) if end is None else end) - begin)
                ends["none" if end is None else "last" if end == len(document) else "kept"] += 1
        self.assertGreater(min(ends.values()), 40)

    def test_edits_that_take_an_edit_back(self):
        draw = Random(81)
        for _ in range(60):
            document = made(drawn_lines(draw))
            old = document.twin()
            line = draw.randint(0, len(old))
            gone = draw.randint(0, min(2, len(old) - line))
            come = drawn_lines(draw)[:draw.randint(0, 3)]
            document.edit(line, gone, come)
            document.edit(line, len(come), old.lines[line:line + gone])
            self.assertTrue(document == old)
            self.assertEqual((document.pages, document.log, document.rests), (old.pages, old.log, old.rests))
            self.check(document)

    def test_lines_of_the_log(self):
        document = made(("a{", "`", "aaaaaa}", "", "aaaaaaa{`", "`"))
        self.assertEqual(document.log, (("full", 3, 23), ("full", 4, 15), ("fault", 4, "ended")))
        self.assertEqual(document.edit(1, 0, ("`", "`")), (1, 3))
        self.assertEqual(document.log, (("full", 5, 23), ("full", 6, 15), ("fault", 6, "ended")))
        self.check(document)
        self.assertEqual(document.edit(7, 1, ("`", "`", "`")), (7, 10))
        self.assertEqual(document.log, (("full", 5, 23), ("full", 6, 15), ("fault", 6, "ended")))
        self.check(document)
        # A line of tokens that change nothing is the last one of which a token has come.
        self.assertEqual(document.edit(8, 1, ("{}`",)), (8, 9))
        self.assertEqual(document.log[-1], ("fault", 8, "ended"))
        self.check(document)
        document.edit(2, 1, ())
        self.assertEqual(document.log[-1], ("fault", 7, "ended"))
        self.check(document)

    def test_edits_that_change_how_many_entries_come_ahead(self):
        full, fine = "\\rowbox to 5u{a}\\penalty-10000 ", "\\rowbox to 15u{a}\\penalty-10000 "
        document = made((full, "`", full, full, "`", fine))
        self.assertEqual(document.log, (("full", 0, 5), ("full", 2, 5), ("full", 3, 5)))
        for edit, told in (((0, 1, (fine,)), (0, 1)), ((3, 1, (fine, fine)), (3, None)), ((4, 1, ()), (4, None)), ((0, 1, (full,)), (0, 1)), ((2, 1, (fine,)), (2, 3)),
                           ((1, 1, ("`", "`")), (1, 3)), ((4, 1, (full,)), (4, 5)), ((5, 0, ("`",)), (5, 6)), ((3, 1, (full,)), (3, 4)), ((0, 2, ("`", fine)), (0, 2))):
            self.assertEqual(document.edit(*edit), told, edit)
            self.check(document)
        self.assertEqual(document.log, (("full", 3, 5), ("full", 4, 5)))

    def test_the_limit_that_is_not_told(self):
        self.assertTrue(made(("a",)) == Document(("a",), STYLES, "ten", PAGE, limit=1000))

    def test_a_press_that_has_stopped(self):
        document = made(("\\rowbox{a}\\penalty-10000 ", "\\nope", "a", "b"))
        self.assertEqual((document.rests, document.log), ((0, 1, 2, 3, 4), (("fault", 1, "token"),)))
        self.assertEqual(document.edit(2, 1, ("x", "\\kern")), (2, 4))
        self.check(document)
        self.assertEqual(document.edit(0, 1, ("\\rowbox{a}",)), (0, 2))
        self.assertEqual((document.pages, document.log), ((), (("fault", 1, "token"),)))
        self.check(document)
        self.assertEqual(document.edit(0, 0, ("\\rowbox{a}\\penalty-10000 ", "\\fi")), (0, 4))
        self.assertEqual(document.log, (("fault", 1, "extra"),))
        self.check(document)
        self.assertEqual(document.edit(1, 4, ()), (1, 3))
        self.assertIn("fault", [entry[0] for entry in document.log])
        self.check(document)

    def test_waiting_deeds(self):
        document = made(("\\define\\x#1{", "", "#1}", "\\x", "`", "b", "\\iftrue", "a"))
        self.assertEqual(document.rests, (0, 3, 6, 8))
        self.assertEqual(document.edit(1, 1, ("ab", "")), (0, None))
        self.assertEqual(document.edit(6, 0, ("`",)), (4, 8))
        self.check(document)

    def test_a_place_at_which_no_macro_is_read_need_not_be_a_rest_place(self):
        self.assertEqual(made(("\\kern", "5u", "\\skip 5u", "a")).rests, (0, 2, 4))

    def test_an_edit_sets_lines_anew_at_which_nothing_is_edited(self):
        document = made(("\\number3=5", "`", "{}`", "`"))
        self.assertEqual(document.edit(0, 1, ("\\number3=6",)), (0, None))
        self.assertEqual(document.work, 8)

    def test_great_documents(self):
        lines = tuple(["ab aab ba" if k % 3 else "" for k in range(400)])
        document = made(lines)
        work = document.work
        self.assertEqual(document.edit(200, 1, ("ab aab ba",)), (200, 201))
        self.assertEqual(document.edit(200, 1, ("`",)), (200, None))
        self.assertEqual(document.work - work, 201)
        self.assertEqual((document.pages, document.log), set_text(document.text, STYLES, "ten", PAGE))


class States(unittest.TestCase):
    def state(self, *lines):
        document = made(lines)
        return document.state_ahead(len(lines))

    def test_equal(self):
        for one, other in ((("a`",), ("`", "a`")), (("\\number3=5 \\number3=0 `",), ("`",)), (("{}`",), ("`",)), (("a {`",), ("\\indent a {`",)),
                           (("\\nope",), ("a", "\\rowbox{b}\\penalty-10000 \\fi")), (("\\rowbox{a}`",), ("\\rowbox  {a}`",)), (("\\mark{a}`",), ("\\mark{\\iftrue a\\fi}`",)),
                           (("\\define\\x{a}\\x`",), ("\\define\\x{a}a`",))):
            self.assertTrue(self.state(*one) == self.state(*other), (one, other))

    def test_unlike_in_one_thing(self):
        base = "{\\rowbox{a}\\columnbox to 5u{\\iftrue a b`"
        others = (
            "{\\rowbox{a}\\columnbox to 6u{\\iftrue a b`", "{\\rowbox{a}\\columnbox spread 5u{\\iftrue a b`", "{\\rowbox{a}\\shift1u\\columnbox to 5u{\\iftrue a b`",
            "{\\rowbox{a}\\columnbox to 5u{\\ifodd1 a b`", "{\\rowbox{a}\\columnbox to 5u{\\iffalse\\else a b`", "{\\rowbox{a}\\columnbox to 5u{a b`",
            "{\\rowbox{a}\\columnbox to 5u{\\iftrue a bb`", "{\\rowbox{a}\\columnbox to 5u{\\iftrue\\noindent a b`",
            "{\\rowbox{a}\\columnbox to 5u{\\iftrue\\kern0u a b`", "{\\rowbox{b}\\columnbox to 5u{\\iftrue a b`", "{\\rowbox{a}{\\columnbox to 5u{\\iftrue a b`",
            "{\\number3=1 \\rowbox{a}\\columnbox to 5u{\\iftrue a b`", "\\number3=1 {\\number3=0 \\rowbox{a}\\columnbox to 5u{\\iftrue a b`",
            "{\\behind a\\rowbox{a}\\columnbox to 5u{\\iftrue a b`", "{\\rowbox{a}\\columnbox to 5u{\\change{c}{other}\\iftrue a b`", "{\\rowbox{a}\\rowbox to 5u{\\iftrue a b`",
            "{\\rowbox{a}\\kern0u \\columnbox to 5u{\\iftrue a b`", "{\\mark{x}\\rowbox{a}\\columnbox to 5u{\\iftrue a b`", "{\\rowbox{a}\\columnbox to 5u{\\iftrue a b}`", "\\nope",
        )
        first = self.state(base)
        self.assertTrue(first == self.state(base))
        self.assertFalse(first != self.state(base))
        for text in others:
            self.assertTrue(first != self.state(text), text)
        for value in ODD_VALUES:
            self.assertFalse(first == value)

    def test_what_the_builder_has_left(self):
        page = "\\rowbox{a}\\penalty-10000 "
        self.assertTrue(self.state(page + "`") != self.state("\\penalty-10000 `"))
        self.assertTrue(self.state(page, page + "`") != self.state(page + "`"))
        # The depth of the last item, if it is a box, also if its page has gone out.
        deep = ("\\rule1u 9u 0u \\penalty0 " * 4 + "\\rule 1u 1u 0u `",)
        self.assertTrue(self.state(*deep) == self.state(*deep))
        one = self.state("\\rowbox{b}`")
        self.assertTrue(one != self.state("\\rowbox{a}`"))


if __name__ == "__main__":
    unittest.main()
