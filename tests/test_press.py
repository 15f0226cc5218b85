"""[17.1] to [17.11] and all that stands below "Stage 17: the press"."""

import unittest
from random import Random

from drawn_texts import PAGE, STYLES, TEN, drawn_text
from odd_values import ODD_VALUES
from pagewright.base.glue import Glue
from pagewright.base.lengths import MAX_LENGTH
from pagewright.box.items import letters_of
from pagewright.box.packing import column_box, row_box
from pagewright.errors import (
    InvalidNumber, InvalidOperation, InvalidPage, InvalidRules, InvalidSort, InvalidToken, ParseError, TooMany, UnknownName,
)
from pagewright.line.paragraphs import paragraph, text_items, word_items
from pagewright.macro.macros import macro_of
from pagewright.page.builder import Builder, PageStyle
from pagewright.press import press as module
from pagewright.press.press import Press, set_text
from pagewright.text.reader import tokens_of

STYLE, SPACE = STYLES["ten"], ("glue", STYLES["ten"].space)
TALL = PageStyle(10 ** 6)


def letter(sign):
    return ("letter", TEN, sign)


A, B, C = letter("a"), letter("b"), letter("c")
AB = (A, ("kern", 1), B)


def pressed(text, page=TALL, limit=1000):
    press = Press(STYLES, "ten", page, limit=limit)
    press.feed(text)
    return press


def main_items(text):
    """The items of the main column that a text makes, from the first solid one on, without marks and notes."""
    pages, log = set_text(text, STYLES, "ten", TALL)
    assert not [entry for entry in log if entry[0] == "fault"], log
    return pages[0].content[1:-1]


def row_items(text):
    """The items of a row box with an inner text."""
    items = main_items("\\rowbox{" + text + "`\n}")
    assert len(items) == 1
    return items[0][1].content


def fault_of(text, page=TALL, limit=1000):
    """The fault of a text that is fed, and finished if it has none till then."""
    press = pressed(text, page, limit)
    if not press.is_stopped:
        press.finish()
    return ([None] + [entry for entry in press.log if entry[0] == "fault"])[-1]


class Examples(unittest.TestCase):
    def test_all(self):
        from pagewright.font.fonts import Font
        from pagewright.line.styles import Style
        font = Font("ten", {"a": (10, 6, 0), "b": (10, 8, 2)}, {})
        styles, page = {"ten": Style(font, (55,), Glue(10, stretch=5, shrink=2), skip=Glue(12))}, PageStyle(30)
        pages, log = set_text("\\define\\two#1{#1#1}\n\\two{ab} b\n", styles, "ten", page)
        self.assertEqual([len(pages), letters_of(pages[0].content), log, set_text("a\\nope\n", styles, "ten", page)], [1, "ababb", (), ((), (("fault", 0, "token"),))])
        press = Press(styles, "ten", page)
        self.assertEqual([press.feed("\\rowbox{a\\number 3=5"), press.modes, press.feed("\nb}"), press.modes, press.feed("\n"), press.modes, press.value_of("number", 3)],
                         [(), ("column",), (), ("column", "inner row"), (), ("column",), 0])

    def test_constants(self):
        self.assertEqual(module.DEEDS, tuple("""everywhere number length glue row add define longdefine fulldefine let change style behind kern skip penalty rule mark part
            indent noindent par rowbox columnbox note shift pagebox""".split()))
        self.assertEqual((module.MAX_PAGES, module.MAX_OPEN), (1000, 50))


class Words(unittest.TestCase):
    def test_words_and_spaces(self):
        self.assertEqual(row_items("a"), (A,))
        self.assertEqual(row_items("ab ba"), (*AB, SPACE, B, A))
        self.assertEqual(row_items(" a  b "), (A, SPACE, B, SPACE))
        self.assertEqual(row_items("a\\kern2u b"), (A, ("kern", 2), B))
        self.assertEqual(row_items("a\\kern2u  b"), (A, ("kern", 2), B))
        self.assertEqual(row_items("a\\number3=1 b"), (A, B))
        self.assertEqual(row_items("a{b}c"), (A, B, C))
        self.assertEqual(row_items("\\kern2u\\iftrue\\fi { }a"), (("kern", 2), SPACE, A))
        self.assertEqual(row_items("{ }a"), (A,))
        self.assertEqual(row_items("\\let\\x=a\\x b.-"), word_items(STYLE, "ab.-"))

    def test_stops(self):
        styles = {"ten": STYLE.changed(stops={".": 2000, "b": 500})}
        pages, log = set_text("\\rowbox{a. b a{} c.{} a}", styles, "ten", TALL)
        self.assertEqual(log, ())
        told = [item[1] for item in pages[0].content[1][1].content if item[0] == "glue"]
        self.assertEqual(told, [Glue(10, stretch=10, shrink=1), Glue(10, stretch=3, shrink=4), STYLE.space, STYLE.space])

    def test_columns_take_no_blanks(self):
        self.assertEqual(pressed("{ } { }\\kern 3u  \n").modes, ("column",))
        self.assertEqual(pressed("\\columnbox{ { } \n").modes, ("column", "inner column"))

    def test_a_word_is_made_by_the_next_deed(self):
        press = pressed("ab")
        self.assertEqual(press.modes, ("column",))
        press.feed("\n")
        self.assertEqual(press.modes, ("column", "row"))
        # The style that is present when the word ends tells its letters.
        styles = {"ten": STYLE, "wide": STYLES["wide"]}
        self.assertEqual(set_text("\\rowbox{ab\\style{wide}c}", styles, "ten", TALL)[1], ())

    def test_refused(self):
        for text, line in (("x\n", 0), ("ax \n", 0), ("a\nx\n", 1), ("a" * 61 + "\n", 0), ("\\rowbox{x}\n", 0), ("x\\kern1u \n", 0), ("x{\n", 0), ("x\\par\n", 0)):
            self.assertEqual(fault_of(text), ("fault", line, "word"))
        self.assertEqual(fault_of("x`\n"), ("fault", 0, "word"))
        self.assertIsNone(fault_of("a" * 60 + "\n"))
        styles = {"ten": STYLE.changed(stops={"a": 100000}, space=Glue(1, stretch=MAX_LENGTH))}
        self.assertEqual(set_text("a b", styles, "ten", TALL)[1], (("fault", 0, "word"),))
        self.assertEqual(set_text("b b", styles, "ten", TALL)[1], ())


class Paragraphs(unittest.TestCase):
    def lines(self, text, style=STYLE, depth=None):
        return tuple([item for item in paragraph(style, text_items(style, text), depth=depth)])

    def test_lines(self):
        self.assertEqual(main_items("ab aab ba\n\n"), self.lines("ab aab ba"))
        self.assertEqual(main_items("ab aab ba"), self.lines("ab aab ba"))
        self.assertEqual(main_items("ab\\par"), self.lines("ab"))
        self.assertEqual(main_items("ab\n\nb\n\n\n\n\\par a"), self.lines("ab") + self.lines("b", depth=2) + self.lines("a", depth=2))

    def test_indents(self):
        styles = {"ten": STYLE.changed(indent=7)}
        made = lambda text: set_text(text, styles, "ten", TALL)[0][0].content[1][1].content
        self.assertEqual(made("ab")[:2], (("kern", 7), A))
        self.assertEqual(made("\\indent ab")[:2], (("kern", 7), A))
        self.assertEqual(made("\\noindent ab")[:1], (A,))
        self.assertEqual(made("\\noindent\\indent ab")[:1], (A,))
        self.assertEqual(made("\\indent\\noindent ab")[:2], (("kern", 7), A))
        self.assertEqual(made("\\length91=-3u \\noindent ab")[:1], (A,))
        self.assertEqual(made("\\length91=-3u ab")[:2], (("kern", -3), A))
        self.assertEqual(made("\\part{}{}{a}")[:2], (("kern", 7), A))

    def test_empty_paragraphs(self):
        press = pressed("\\indent\n")
        self.assertEqual(press.modes, ("column", "row"))
        press.feed("\\par\n")
        self.assertEqual((press.modes, press.finish(), press.log), (("column",), (), ()))
        self.assertEqual(main_items("\\indent\\par a"), self.lines("a"))

    def test_registers(self):
        text = "ab aab ba aab"
        for set_register, changes in (("\\number90=1 ", {"looseness": 1}), ("\\number91=9 ", {"tolerance": 9}), ("\\number92=-20 ", {"hyphen": -20}),
                                      ("\\number93=77 ", {"between": 77}), ("\\length90=70u ", {"widths": (70,)}), ("\\length91=4u ", {"indent": 4}),
                                      ("\\glue90=20u ", {"skip": Glue(20)}), ("\\number90=0 \\length90=0u \\glue90=0u ", {}), ("\\style{wide}", STYLES["wide"])):
            style = changes if not isinstance(changes, dict) else STYLE.changed(**changes)
            self.assertEqual(main_items(set_register + text), self.lines(text, style))
            if style != STYLES["wide"]:
                self.assertEqual(main_items(text + set_register), self.lines(text, style))
            self.assertEqual(main_items("{" + set_register + "}" + text), self.lines(text))
        for text in ("\\length90=-5u ab", "\\number91=10001 ab", "\\number92=-10000 ab", "\\number90=101 ab"):
            self.assertEqual(fault_of(text), ("fault", 0, "par"))

    def test_glue_ahead(self):
        for glue in ("5u", "0u plus 1fil"):
            told = ("glue", Glue.of_text(glue))
            items = main_items(f"a\n\n\\glue91={glue}\nab\n\n")
            self.assertEqual(items, self.lines("a") + (told,) + self.lines("ab", depth=0))
        self.assertEqual(main_items("a\n\n\\glue91=0u ab"), self.lines("a") + self.lines("ab", depth=0))

    def test_depths_ahead(self):
        self.assertEqual(main_items("\\rowbox{b}a"), (("box", row_box((B,)), 0),) + self.lines("a", depth=2))
        for between in ("\\kern0u ", "\\penalty0 ", "\\skip 0u ", "\\rule 1u 1u 1u "):
            self.assertEqual(main_items("\\rowbox{b}" + between + "a")[2:], self.lines("a"))
        self.assertEqual([item[0] for item in main_items("\\rowbox{b}\\mark{m}a")], ["box", "box"])
        inner = main_items("\\columnbox{\\rowbox{b}a}")[0][1].content
        self.assertEqual(inner, (("box", row_box((B,)), 0),) + self.lines("a", depth=2))
        # Also if the page of the box has gone out.
        pages, _ = set_text("\\rowbox{b}\\penalty-10000\\rowbox{b}\\penalty-10000 \n", STYLES, "ten", PAGE)
        self.assertEqual(len(pages), 2)
        press = pressed("\\rowbox{b}\\columnbox{}\n\n", PageStyle(5))
        gone = len(press.pages)
        press.feed("a\n\n")
        self.assertGreaterEqual(len(press.pages), gone)

    def test_depths_in_inner_columns(self):
        outer = main_items("\\columnbox{\\rowbox{a}\\columnbox{\\rowbox{b}a}}")[0][1]
        inner = (("box", row_box((B,)), 0),) + self.lines("a", depth=2)
        self.assertEqual(outer.content, (("box", row_box((A,)), 0), ("box", column_box(inner), 0)))
        outer = main_items("\\rowbox{b}\\columnbox{\\columnbox{a}}")[1][1]
        self.assertEqual(outer.content, (("box", column_box(self.lines("a")), 0),))
        outer = main_items("\\columnbox{\\rowbox{b}\\columnbox{a}}")[0][1]
        self.assertEqual(outer.content[1], ("box", column_box(self.lines("a")), 0))

    def test_the_depth_of_a_box_whose_page_has_gone_out(self):
        pages, log = set_text("\\rowbox{b}\\rowbox{b}\\skip0u\\rowbox{b}a", STYLES, "ten", PageStyle(25))
        self.assertEqual(log, ())
        self.assertEqual(pages[-1].content[1][1].content[0], B)
        gaps = [item for page in pages for item in page.content if item == ("glue", Glue(12 - 2 - 6))]
        self.assertEqual(len(gaps), 1)

    def test_refused(self):
        self.assertEqual(fault_of("\\skip 1u minus 1fil a\\skip 1u minus 1fil \n\n"), ("fault", 1, "par"))
        self.assertEqual(fault_of("\\indent" + "\\kern1u " * 1000 + "\n\n"), ("fault", 1, "par"))
        self.assertEqual(fault_of("a\\skip 1u minus 1fil b", limit=5), ("fault", 0, "par"))

    def test_full_lines(self):
        pages, log = set_text("aaaaaa\n\naaaaaaa\n\na\n", STYLES, "ten", TALL)
        self.assertEqual(log, (("full", 1, 5), ("full", 3, 15)))
        self.assertEqual(set_text("aaaaaa", STYLES, "ten", TALL)[1], (("full", 0, 5),))


class Assignments(unittest.TestCase):
    def value(self, text, kind, key):
        press = pressed(text + "\n")
        self.assertEqual(press.log, ())
        return press.value_of(kind, key)

    def test_registers(self):
        for text, kind, value in (("\\number3=5", "number", 5), ("\\number 3 -7", "number", -7), ("\\number3 = 8 ", "number", 8), ("\\number-0003=-5", "number", None),
                                  ("\\length3=1pt", "length", 65536), ("\\length3 2u", "length", 2), ("\\glue3=1u plus 2fil minus 3u \\relax", "glue", None),
                                  ("\\row3={ab}", "row", tokens_of("ab`")), ("\\row3 {a{b}}", "row", tokens_of("a{b}`")), ("\\row3= {}", "row", ())):
            if value is not None:
                self.assertEqual(self.value(text, kind, 3), value)
        self.assertEqual(self.value("\\glue3=1u plus 2fil minus 3u \\par", "glue", 3), Glue(1, stretch=131072, stretch_order=1, shrink=3))
        self.assertEqual(self.value("\\number3=4 \\number\\number3 =6", "number", 4), 6)
        self.assertEqual(self.value("\\row3={\\d#}", "row", 3), tokens_of("\\d#`"))

    def test_additions(self):
        self.assertEqual(self.value("\\number3=5 \\add\\number3 4 \\add\\number3=-20", "number", 3), -11)
        self.assertEqual(self.value("\\length3=5u \\add\\length3 -7u", "length", 3), -2)
        self.assertEqual(self.value("\\glue3=5u plus 1u\\add\\glue3=1u plus 2u minus 1u \\par", "glue", 3), Glue(6, stretch=3, shrink=1))
        self.assertEqual(self.value("\\number3=5 {\\everywhere\\add\\number3 4 \\add\\number3 1 }", "number", 3), 9)

    def test_local_and_everywhere(self):
        kinds = (("number", "\\number3=", "5 ", 0, 5), ("length", "\\length3=", "5u ", 0, 5), ("glue", "\\glue3=", "5u\\par", Glue(0), Glue(5)),
                 ("row", "\\row3=", "{a}", (), tokens_of("a`")))
        for kind, ahead, value, first, then in kinds:
            self.assertEqual(self.value("{" + ahead + value + "}", kind, 3), first)
            self.assertEqual(self.value("{" + ahead + value, kind, 3), then)
            self.assertEqual(self.value("{{\\everywhere" + ahead + value + "}}", kind, 3), then)
            self.assertEqual(self.value("{{\\everywhere " + ahead + value + "}", kind, 3), then)

    def test_definitions(self):
        self.assertEqual(self.value("\\define\\d{ab}", "meaning", ("word", "d")), macro_of((), tokens_of("ab`")))
        self.assertEqual(self.value("\\define\\d#1.#2{#2#1##}", "meaning", ("word", "d")), macro_of(tokens_of("#1.#2`"), tokens_of("#2#1##`")))
        self.assertEqual(self.value("\\longdefine ~#1{#1}", "meaning", ("sign", "~", "active")), macro_of(tokens_of("#1`"), tokens_of("#1`"), is_long=True))
        self.assertEqual(self.value("\\define\\d{a}{\\define\\d{b}}", "meaning", ("word", "d")).body, tokens_of("a`"))
        self.assertEqual(self.value("{\\everywhere\\define\\d{a}}", "meaning", ("word", "d")).body, tokens_of("a`"))
        self.assertEqual(self.value("\\define\\d#1 {#1}", "meaning", ("word", "d")).delimiters, ((("sign", " ", "blank"),),))
        self.assertEqual(row_items("\\define\\d#1{#1#1}\\d{ab}c"), word_items(STYLE, "ababc"))

    def test_bodies_are_not_expanded(self):
        self.assertEqual(self.value("\\define\\d{a}\\define\\e{\\d}", "meaning", ("word", "e")).body, tokens_of("\\d`"))
        self.assertEqual(row_items("\\define\\d{a}\\longdefine\\e{\\d}\\fulldefine\\f{\\d}\\define\\d{b}\\e\\kern1u \\f"), (B, ("kern", 1), A))

    def test_blanks_are_passed_over(self):
        # Behind a word of another sign a blank comes.
        for text, key, value in (("\\let\\! =b", "!", ("sign", "b", "letter")), ("\\let\\! b", "!", ("sign", "b", "letter")),
                                 ("\\let\\r=\\row\\let\\! =\\r\\! 3 {b}", "!", ("command", "row")), ("\\let\\! \\let\\! \\? =a", "?", ("sign", "a", "letter"))):
            self.assertEqual(self.value(text, "meaning", ("word", key)), value)
        self.assertEqual(self.value("\\let\\!=\\define\\! \\? {b}", "meaning", ("word", "?")), macro_of((), tokens_of("b`")))
        self.assertEqual(self.value("\\let\\!=\\define\\! \\? #1 {b}", "meaning", ("word", "?")), macro_of(tokens_of("#1 {")[:-2], tokens_of("b`")))
        self.assertEqual(self.value("\\let\\!=\\change\\! {!} {letter}", "sort", "!"), "letter")
        self.assertEqual(self.value("\\let\\!=\\row\\! \\number4 = {b}", "row", 0), tokens_of("b`"))
        self.assertEqual(self.value("\\let\\!=\\everywhere\\let\\?=\\add{\\! \\? \\number3 4 }", "number", 3), 4)
        self.assertEqual(row_items("\\let\\!=\\rowbox\\! to5u{a}\\! spread 5u{a}\\! {a}"), (
            ("box", row_box((A,), to=5), 0), ("box", row_box((A,), spread=5), 0), ("box", row_box((A,)), 0)))
        self.assertEqual(row_items("\\let\\!=\\shift\\! 1u\\rowbox{a}\\let\\!=\\part\\! {} {} {a}"), (("box", row_box((A,)), 1), ("part", (), (), (A,))))
        self.assertEqual(row_items("\\let\\!=\\mark\\! {a}\\let\\!=\\note\\! {}"), (("mark", "a"), ("note", column_box(()))))

    def test_full_definitions(self):
        text = "\\define\\d{ab}\\fulldefine\\e{\\d\\keep\\d\\number#}"
        self.assertEqual(self.value(text, "meaning", ("word", "e")), macro_of((), tokens_of("ab\\d\\number##`")))
        self.assertEqual(row_items("\\number3=7 \\fulldefine\\e{a\\ifnumber\\number3=7 b\\else c\\fi}\\number3=8 \\e"), word_items(STYLE, "ab"))

    def test_let(self):
        self.assertEqual(self.value("\\let\\x=\\kern", "meaning", ("word", "x")), ("command", "kern"))
        self.assertEqual(self.value("\\let\\x\\kern", "meaning", ("word", "x")), ("command", "kern"))
        self.assertEqual(self.value("\\let~==", "meaning", ("sign", "~", "active")), ("sign", "=", "other"))
        self.assertEqual(self.value("\\let\\x= {a", "meaning", ("word", "x")), ("sign", "{", "open"))
        self.assertIsNone(self.value("\\let\\par=\\undefined", "meaning", ("word", "par")))
        self.assertEqual(self.value("\\define\\d{a}\\let\\x=\\d\\define\\d{b}", "meaning", ("word", "x")).body, tokens_of("a`"))
        self.assertEqual(self.value("{\\let\\x=a\\everywhere\\let\\y=\\x}", "meaning", ("word", "y")), ("sign", "a", "letter"))
        self.assertIsNone(self.value("{\\let\\x=a}", "meaning", ("word", "x")))

    def test_groups_by_words(self):
        press = pressed("\\let\\begin={\\let\\end=}\\begin\\number3=5 \n")
        self.assertEqual((press.level, press.value_of("number", 3)), (1, 5))
        press.feed("\\end\n")
        self.assertEqual((press.level, press.value_of("number", 3)), (0, 0))

    def test_sorts(self):
        self.assertEqual(self.value("\\change{!}{active}", "sort", "!"), "active")
        self.assertEqual(self.value("\\change{\\}}{other}", "sort", "}"), "other")
        self.assertEqual(self.value("{\\change{!}{letter}}", "sort", "!"), "other")
        self.assertEqual(self.value("{\\everywhere\\change{!}{letter}}", "sort", "!"), "letter")
        self.assertEqual(self.value("\\change{ }{letter}", "sort", " "), "letter")
        # The reader has the sorts of the scope, at once, and those ahead of the group behind it.
        self.assertEqual(row_items("a\\change{!}{active}\\define!{b}!c"), (A, B, C))
        self.assertEqual(row_items("{\\change{c}{ignored}cac}c"), (A, C))
        self.assertEqual(row_items("{\\change{c}{comment}acb\nb}c"), (*AB, C))
        self.assertEqual(row_items("\\change{|}{escape}|change{\\|}{other}\\kern1u "), (("kern", 1),))

    def test_styles(self):
        self.assertEqual(self.value("", "row", 99), tokens_of("ten`"))
        self.assertEqual(self.value("\\style{wide}", "row", 99), tokens_of("wide`"))
        self.assertEqual(self.value("{\\style{wide}}", "row", 99), tokens_of("ten`"))
        self.assertEqual(self.value("{\\everywhere\\style{wide}}", "row", 99), tokens_of("wide`"))
        self.assertEqual(row_items("a\\style{wide} b"), (A, ("glue", STYLES["wide"].space), B))
        self.assertEqual(row_items("a\\row99={wide} b"), (A, ("glue", STYLES["wide"].space), B))
        for text in ("\\style{none}", "\\style{}", "\\style{\\x}", "\\row99={none}a ", "\\row99={}a\\par", "\\row99={te{n}}a ", "\\row99={}\\rowbox{\\kern1u\\iftrue\\fi { }}",
                     "\\row99={}\\indent\\kern1u\\par", "\\row99={}\\part{a}{}{}", "\\change{t}{other}\\row99={ten}a "):
            self.assertEqual(fault_of(text), ("fault", 0, "style"), text)
        self.assertIsNone(fault_of("\\row99={}\\kern1u \\rowbox{\\kern1u}\\part{}{}{}\\style{ten}\\par"))

    def test_behind(self):
        self.assertEqual(row_items("{\\behind a\\behind b c}c"), (C, *word_items(STYLE, "abc")))
        self.assertEqual(row_items("\\define\\d{b}{\\behind\\d\\define\\d{a}c}c"), (C, B, C))
        self.assertEqual(main_items("\\rowbox{\\behind a b}")[2][1].content[0], A)
        press = pressed("{\\behind  \n a\n")
        self.assertEqual((press.log, press.modes), ((), ("column",)))
        press.feed("}\n")
        self.assertEqual(press.modes, ("column", "row"))

    def test_waiting(self):
        press = pressed("\\define\\x#1{a\n")
        self.assertIsNone(press.value_of("meaning", ("word", "x")))
        press.feed("#1}")
        self.assertIsNone(press.value_of("meaning", ("word", "x")))
        press.feed("`\n")
        self.assertEqual(len(press.value_of("meaning", ("word", "x"))), 1)
        press = pressed("\\number3=5`\n")
        self.assertEqual(press.value_of("number", 3), 0)
        press.feed("1 ")
        self.assertEqual(press.value_of("number", 3), 0)
        press.feed("\n")
        self.assertEqual(press.value_of("number", 3), 51)


REFUSED = (
    # A text, and the word of its fault.
    ("\\nope", "token"), ("#", "token"), ("~", "token"), ("\\endname", "token"), ("\\define\\d{a}\\keep\\d", "token"), ("\\keep\\iftrue", "token"), ("\\keep\\fi", "token"),
    ("\\number256=1 ", "number"), ("\\number-1=1 ", "number"), ("\\number x", "number"), ("\\number3=x", "number"), ("\\number3=2147483648 ", "number"), ("\\number2147483647=1 ", "number"),
    ("\\length256=1u ", "length"), ("\\length3=1", "number"), ("\\length3=99999pt ", "number"), ("\\length-5=1u ", "length"), ("\\glue999=1u \\par", "glue"), ("\\glue3=x", "number"),
    ("\\row256={}", "row"), ("\\row3=a", "row"), ("\\row3=}", "row"), ("\\row3={" + "a" * 1001 + "}", "row"), ("\\row 3=\\par{}", "row"),
    ("\\add\\number256 1 ", "add"), ("\\add\\row3{a}", "add"), ("\\add\\kern", "add"), ("\\add a", "add"), ("\\number3=2147483647 \\add\\number3 1 ", "add"),
    ("\\length3=1073741823u \\add\\length3 1u ", "add"), ("\\glue3=1073741823u \\add\\glue3 1u\\par", "add"), ("\\add\\number3 x", "number"),
    ("\\define a{}", "define"), ("\\define{}", "define"), ("\\define\\d#2{}", "define"), ("\\define\\d#1{#2}", "define"), ("\\define\\d##{}", "define"), ("\\define\\d}{}", "define"),
    ("\\longdefine\\d#1#1{}", "longdefine"), ("\\longdefine a{}", "longdefine"), ("\\fulldefine\\d#1{}", "fulldefine"), ("\\fulldefine\\d a{}", "fulldefine"), ("\\fulldefine a{}", "fulldefine"),
    ("\\define\\d{" + "a" * 1001 + "}", "define"), ("\\fulldefine\\d{\\fi}", "extra"), ("\\fulldefine\\d{\\iftrue}", "ended"), ("\\define\\d#1{#}", "define"),
    ("\\let a=b", "let"), ("\\let{=b", "let"), ("\\change{ab}{other}", "change"), ("\\change{}{other}", "change"), ("\\change{a}{none}", "change"), ("\\change{a}{}", "change"),
    ("\\change{\\ab}{other}", "change"), ("\\change{a}{\\other}", "change"), ("\\change a{other}", "change"), ("\\change{a}b", "change"), ("\\style a", "style"),
    ("\\behind a", "behind"), ("{" + "\\behind a" * 101, "behind"), ("\\kern x", "number"), ("\\kern 5", "number"), ("\\skip x", "number"), ("\\penalty x", "number"),
    ("\\penalty10001 ", "penalty"), ("\\penalty-10001 ", "penalty"), ("\\rule 1u 2u x", "number"), ("\\mark a", "mark"), ("\\mark{\\nope}", "mark"), ("\\mark{" + "a" * 101 + "}", "mark"),
    ("\\mark{\\fi}", "extra"), ("\\mark{\\iftrue}", "ended"), ("\\part{a}{b}c", "part"), ("\\part{x}{}{}", "part"), ("\\part{}{x}{}", "part"), ("\\part{}{}{x}", "part"),
    ("\\part{\\nope}{}{}", "part"), ("\\part{ }{}{}", "part"), ("\\part{}{}{\\fi}", "extra"), ("\\part{" + "a" * 61 + "}{}{}", "part"),
    ("\\rowbox a", "rowbox"), ("\\rowbox}", "rowbox"), ("\\rowbox to5u a", "rowbox"), ("\\rowbox to x", "number"), ("\\rowbox t{}", "rowbox"), ("\\let\\x={\\rowbox\\x}", "rowbox"),
    ("\\columnbox a", "columnbox"), ("\\columnbox spread{}", "number"), ("\\columnbox\\par{}", "columnbox"), ("\\note a", "note"), ("\\note to 5u{}", "note"), ("\\let\\x={\\note\\x}", "note"),
    ("\\shift x", "number"), ("\\shift1u a", "shift"), ("\\shift1u\\note{}", "shift"), ("\\shift1u{}", "shift"), ("\\shift1u\\rowbox a", "rowbox"), ("\\shift1u\\columnbox a", "columnbox"),
    ("\\everywhere a", "everywhere"), ("\\everywhere\\kern1u ", "everywhere"), ("\\everywhere\\behind a", "everywhere"), ("\\everywhere\\nope", "everywhere"),
    ("\\everywhere\\number256=1 ", "number"), ("\\everywhere\\define a{}", "define"), ("\\everywhere\\let a=b", "let"), ("\\everywhere\\add a", "add"),
    ("\\everywhere\\change{a}{none}", "change"), ("\\everywhere\\row3=a", "row"), ("}", "group"), ("{" * 101, "group"), ("\\pagebox", "pagebox"),
    ("\\fi", "extra"), ("\\else", "extra"), ("\\define\\d a{}\\d b", "use"), ("\\define\\d{\\d}\\d", "steps"),
    ("\\rowbox to 1073741823u{\\kern-1u }", "rowbox"), ("\\columnbox{\\kern1073741823u \\kern1u }", "columnbox"), ("\\note{\\kern1073741823u \\kern1u }", "note"),
    ("\\note{\\mark{a}}", "note"), ("\\note{\\note{}}", "note"), ("\\rowbox{" + "\\kern1u " * 2001 + "}", "rowbox"),
)
AHEADS = (("", ("column",)), ("\\columnbox{", ("column", "inner column")), ("\\rowbox{", ("column", "inner row")), ("\\indent ", ("column", "row")),
          ("\\columnbox{\\noindent ", ("column", "inner column", "row")))


class Refused(unittest.TestCase):
    def test_each_mode(self):
        for text, word in REFUSED:
            for ahead, modes in AHEADS:
                with self.subTest(text=text[:60], ahead=ahead):
                    press = pressed("`\n" if ahead == "" else ahead + "\\number7=1 \\kern1u `\n")
                    before = self.held(press)
                    self.assertEqual(press.modes, modes)
                    press.feed(text + "`\n" if text[-1] not in "0123456789" else text + " `\n")
                    for _ in range(3):
                        press.feed("\\iffalse\\fi`\n")
                    if self.is_fine(text, modes):
                        continue
                    entry = press.log[-1]
                    self.assertEqual((entry[0], entry[2]), ("fault", word))
                    self.assertGreaterEqual(entry[1], 1)
                    self.assertIs(press.is_stopped, True)
                    self.assertLessEqual(len([one for one in press.log if one[0] == "fault"]), 1)
                    if text[:1] == "\\" and text.count("\\") == 1:
                        self.assertEqual(self.held(press), before)

    def is_fine(self, text, modes):
        """Whether what is refused in some modes is done in these ones."""
        if modes[-1] != "column" and text == "\\behind a":
            return len(modes) > 1 and modes != ("column", "row")
        if text == "}":
            return modes != ("column",) and modes != ("column", "row")
        # Marks and notes of a note are refused only to the main column.
        if text.startswith(("\\note{\\mark", "\\note{\\note")):
            return modes != ("column",)
        return False

    def held(self, press):
        return press.modes, press.level, press.pages, press.value_of("number", 7), press.value_of("number", 3), press.value_of("row", 99)

    def test_nothing_is_done_of_a_group_end_that_is_refused(self):
        press = pressed("\\number3=1 \\note{\\number3=5 \\mark{a}\\everywhere\\number4=6 \n")
        press.feed("}\n")
        self.assertEqual((press.log, press.level, press.modes, press.value_of("number", 3), press.value_of("number", 4)),
                         ((("fault", 1, "note"),), 1, ("column", "inner column"), 5, 6))
        press = pressed("\\columnbox to 1u{\\number3=5 a\\skip 1u minus 1fil \n")
        press.feed("}\n")
        self.assertEqual((press.log, press.level, press.modes, press.value_of("number", 3)), ((("fault", 1, "par"),), 1, ("column", "inner column", "row"), 5))

    def test_groups_of_5000_tokens(self):
        for many, word in ((4996, None), (4997, "mark")):
            told = fault_of("\\mark{\\iffalse " + "a" * many + "\\fi}")
            self.assertEqual(told, word and ("fault", 0, word))

    def test_a_press_that_has_stopped_does_nothing(self):
        press = pressed("\\rowbox{a}\\penalty-10000 \\nope\\number3=5\n")
        pages = press.pages
        self.assertEqual((len(pages), press.log, press.is_stopped), (1, (("fault", 0, "token"),), True))
        self.assertEqual((press.feed("\\rowbox{a}\\penalty-10000 \n\\number3=5 \n"), press.finish()), ((), ()))
        self.assertEqual((press.pages, press.log, press.value_of("number", 3), press.is_finished), (pages, (("fault", 0, "token"),), 0, True))
        self.assertRaises(InvalidOperation, press.feed, "a")
        self.assertRaises(InvalidOperation, press.finish)

    def test_lines_of_faults(self):
        for text, line in (("\n\n\\nope\n", 2), ("\\kern\n\nx\n", 1), ("\\define\\d#1#2{}\n\\d a\n\n", 2), ("\\rowbox\n`\na", 2), ("a\n{\n`\n\n", 3), ("\\nope", 0), ("{", 0), ("a`\n`\n{", 2)):
            self.assertEqual(fault_of(text)[:2], ("fault", line), text)

    def test_limits(self):
        self.assertIsNone(fault_of("{" * 100 + "}" * 100))
        self.assertEqual(fault_of("{" * 101), ("fault", 0, "group"))
        self.assertEqual(fault_of("{" * 100 + "\\rowbox{"), ("fault", 0, "group"))
        boxes = "\\rowbox{" * 49
        self.assertEqual(pressed(boxes + "\n").modes, ("column",) + ("inner row",) * 49)
        self.assertEqual(fault_of(boxes + "\\rowbox{"), ("fault", 0, "lists"))
        press = pressed(boxes + "\n\\everywhere\\number3=5 \\rowbox{\n")
        self.assertEqual((press.log, press.level, press.modes, press.value_of("number", 3)), ((("fault", 1, "lists"),), 49, ("column",) + ("inner row",) * 49, 5))
        self.assertEqual(fault_of("\\columnbox{" * 49 + "a"), ("fault", 0, "lists"))
        self.assertEqual(fault_of("\\columnbox{" * 49 + "\\indent"), ("fault", 0, "lists"))
        self.assertEqual(fault_of("\\columnbox{" * 49 + "\\part{}{}{}"), ("fault", 0, "lists"))
        self.assertIsNone(fault_of("\\columnbox{" * 48 + "a" + "}" * 48))
        self.assertIsNone(fault_of("{" + "\\behind\\par" * 100 + "}"))

    def test_the_limit_that_is_not_told(self):
        text = "\\define\\d#1{}" + "\\d a" * 1000
        self.assertEqual(set_text(text, STYLES, "ten", TALL)[1], ())
        self.assertEqual(set_text(text + "\\d a", STYLES, "ten", TALL)[1], (("fault", 0, "steps"),))
        press = Press(STYLES, "ten", TALL)
        press.feed(text + "\n" + text[13:] + "\n" + text[13:] + "\\d a\n")
        self.assertEqual(press.log, (("fault", 2, "steps"),))
        self.assertEqual(Press(STYLES, "ten", TALL, limit=1).log, ())

    def test_steps(self):
        self.assertIsNone(fault_of("\\define\\d{}\\d\\d\\d\n", limit=3))
        self.assertEqual(fault_of("\\define\\d{}\\d\\d\\d\\d\n", limit=3), ("fault", 0, "steps"))
        self.assertIsNone(fault_of("\\define\\d{}\\d\\d\\d\n\\d\\d\\d", limit=3))
        self.assertEqual(fault_of("\\row3={" + "a" * 1000 + "}\\define\\d{\\value\\row3 }\\mark{\\d\\d\\d\\d\\d\\d}\n"), ("fault", 0, "steps"))

    def test_pages(self):
        text = "\\rowbox{}\\penalty-10000 \n" * 1000
        self.assertEqual(len(set_text(text[:19999], STYLES, "ten", PAGE)[0]), 800)
        text = "\\let\\r=\\rowbox\\let\\p=\\penalty\n" + "\\r{}\\p-10000\n" * 1001
        pages, log = set_text(text, STYLES, "ten", PAGE)
        self.assertEqual((len(pages), log), (1000, (("fault", 1001, "pages"),)))
        pages, log = set_text(text[:-14], STYLES, "ten", PAGE)
        self.assertEqual((len(pages), log), (1000, ()))


class Lists(unittest.TestCase):
    def test_items(self):
        self.assertEqual(main_items("\\rowbox{a}\\kern 2u\\skip 3u plus 1fil\\penalty-5 \\rule 1u 2u 3u\\kern 1pt"),
                         (("box", row_box((A,)), 0), ("kern", 2), ("glue", Glue(3, stretch=65536, stretch_order=1)), ("penalty", -5), ("rule", 1, 2, 3), ("kern", 65536)))
        self.assertEqual(row_items("\\mark{a b}\\penalty7 "), (("mark", "a b"), ("penalty", 7)))
        self.assertEqual(row_items("\\define\\d{bb}\\mark{a\\d\\show~}"), (("mark", "abb~"),))
        self.assertEqual(row_items("\\define\\d{b}\\part{-}{}{a\\d}"), (("part", (letter("-"),), (), AB),))
        self.assertEqual(row_items("\\note{\\rowbox{a}}"), (("note", column_box((("box", row_box((A,)), 0),))),))

    def test_boxes(self):
        self.assertEqual(row_items("\\rowbox to 50u{a b}"), (("box", row_box((A, SPACE, B), to=50), 0),))
        self.assertEqual(row_items("\\rowbox spread -1u{a b}"), (("box", row_box((A, SPACE, B), spread=-1), 0),))
        self.assertEqual(row_items("\\rowbox{a b}"), (("box", row_box((A, SPACE, B)), 0),))
        self.assertEqual(row_items("\\shift 5u\\rowbox  to  9u  {a}"), (("box", row_box((A,), to=9), 5),))
        self.assertEqual(row_items("\\shift-5u\\columnbox spread 2u{\\kern1u }"), (("box", column_box((("kern", 1),), spread=2), -5),))
        self.assertEqual(row_items("\\define\\d{5u}\\rowbox to\\d{a}"), (("box", row_box((A,), to=5), 0),))
        self.assertEqual(row_items("\\define\\d#1{#1\\rowbox}\\shift 1u\\iftrue\\rowbox\\iftrue{a}\\fi\\fi"), (("box", row_box((A,)), 1),))

    def test_words_for_to(self):
        # Of any sorts but active, and not expanded.
        self.assertEqual(row_items("\\change{t}{other}\\rowbox to5u{a}"), (("box", row_box((A,), to=5), 0),))
        self.assertEqual(fault_of("\\change{t}{active}\\define t{a}\\rowbox to5u{a}"), ("fault", 0, "rowbox"))
        self.assertEqual(fault_of("\\define\\t{to}\\rowbox\\t5u{a}"), ("fault", 0, "rowbox"))
        self.assertEqual(fault_of("\\rowbox spreat5u{a}"), ("fault", 0, "rowbox"))
        self.assertEqual(fault_of("\\rowbox"), ("fault", 0, "ended"))
        self.assertEqual(fault_of("\\rowbox t"), ("fault", 0, "rowbox"))

    def test_columns(self):
        column = main_items("\\columnbox{a b\n\n\\kern3u\nb}")[0][1]
        self.assertEqual(column.content, (*paragraph(STYLE, text_items(STYLE, "a b")), ("kern", 3), *paragraph(STYLE, text_items(STYLE, "b"))))
        self.assertEqual(main_items("\\columnbox to 5u{a}")[0][1].excess, 1)

    def test_full_boxes(self):
        for text, log in (("\\rowbox to 5u{a}", (("full", 0, 5),)), ("\\rowbox to 15u{a}", ()), ("\\columnbox to 5u{\\kern9u }", (("full", 0, 4),)), ("\\rowbox\nto 5u{a\n}", (("full", 2, 13),)),
                          ("\\rowbox to 1u{\\rowbox to 2u{a}}", (("full", 0, 8), ("full", 0, 1)))):
            self.assertEqual(set_text(text, STYLES, "ten", TALL)[1], log, text)

    def test_values_in_boxes_are_local(self):
        press = pressed("\\rowbox{\\number3=5 \\everywhere\\number4=6 }\\columnbox{\\number3=7 }\\note{\\number3=9 }\n")
        self.assertEqual((press.value_of("number", 3), press.value_of("number", 4)), (0, 6))
        # A paragraph in a box ends with the values of the box.
        self.assertEqual(len(main_items("\\columnbox{\\length90=12u a b}")[0][1].content), 4)
        self.assertEqual(len(main_items("\\columnbox{a b}")[0][1].content), 1)

    def test_groups(self):
        press = pressed("{\\rowbox{{\\columnbox{a\n")
        self.assertEqual((press.level, press.modes), (4, ("column", "inner row", "inner column", "row")))
        press.feed("}\n")
        self.assertEqual((press.level, press.modes), (3, ("column", "inner row")))
        press.feed("}}}\n")
        self.assertEqual((press.level, press.modes), (0, ("column",)))
        self.assertEqual(pressed("{a}b\n").modes, ("column", "row"))

    def test_notes(self):
        pages, log = set_text("\\rowbox{a}\\note{\\rowbox{b}}\\skip1u", STYLES, "ten", PAGE)
        self.assertEqual(log, ())
        self.assertEqual(pages[0].content[-1][1], column_box((("box", row_box((B,)), 0),)))
        pages, log = set_text("ab\\note{c} b\n\n", STYLES, "ten", PAGE)
        self.assertEqual((log, letters_of(pages[0].content)), ((), "abbc"))


class Output(unittest.TestCase):
    PAGES = "\\rowbox{a}\\mark{ab}\\penalty-10000 \\rowbox{b}\\penalty-10000 \\mark{c}\\rowbox{c}\\mark{a}\\penalty-10000 \n"

    def pages(self, row, text=PAGES):
        return set_text("\\row90={" + row + "}`\n" + text, STYLES, "ten", PAGE)

    def test_plain(self):
        pages, log = set_text(self.PAGES, STYLES, "ten", PAGE)
        self.assertEqual((len(pages), log), (3, ()))
        self.assertEqual([page.height + page.depth for page in pages], [40] * 3)
        builder = Builder(PAGE)
        items = (("box", row_box((A,)), 0), ("mark", "ab"), ("penalty", -10000), ("box", row_box((B,)), 0), ("penalty", -10000))
        self.assertEqual(tuple([page.box for item in items for page in builder.put(item)]), pages[:2])

    def test_columns(self):
        plain = set_text(self.PAGES, STYLES, "ten", PAGE)[0]
        pages, log = self.pages("\\kern2u\\pagebox\\rowbox{a}")
        self.assertEqual(log, ())
        for page, inner in zip(pages, plain):
            self.assertEqual(page, column_box((("kern", 2), ("box", inner, 0), ("box", row_box((A,)), 0))))
        self.assertEqual(self.pages("")[0], plain)
        self.assertEqual(self.pages("\\kern2u ")[0], (column_box((("kern", 2),)),) * 3)

    def test_numbers(self):
        press = pressed("\\row90={\\rowbox{\\ifnumber\\number94=1 a\\else b\\fi}\\number94=9 {\\number94=7 }}`\n" + self.PAGES, PAGE)
        self.assertEqual([letters_of(page.content) for page in press.pages], ["a", "b", "b"])
        self.assertEqual(press.value_of("number", 94), 3)
        press = pressed("{{\\number94=5 \n" + self.PAGES, PAGE)
        self.assertEqual((len(press.pages), press.value_of("number", 94)), (3, 3))
        press.feed("}}\n")
        self.assertEqual(press.value_of("number", 94), 3)

    def test_marks(self):
        pages, log = self.pages("\\rowbox{\\value\\row91 .\\value\\row92 .\\value\\row93 }")
        told = [letters_of(page.content) for page in pages]
        self.assertEqual((told, log), ([".ab.ab", "ab.ab.ab", "ab.c.a"], ()))
        press = pressed("\\row90={\\rowbox{\\value\\row92 }}`\n" + self.PAGES, PAGE)
        self.assertEqual(press.pages[0].content[0][1].content, (*AB, SPACE))
        self.assertEqual(press.value_of("row", 92), ())

    def test_values_are_local_to_the_group(self):
        press = pressed("\\row90={\\number3=5 \\everywhere\\number4=\\number94 \\change{a}{active}}`\n" + self.PAGES, PAGE)
        self.assertEqual((press.value_of("number", 3), press.value_of("number", 4), press.value_of("sort", "a"), press.level, press.log), (0, 3, "letter", 0, ()))
        press = pressed("\\row90={\\behind\\number\\behind3\\behind=\\behind8\\behind\\par}`\n\\rowbox{a}\\penalty-10000 \n", PAGE)
        self.assertEqual((press.value_of("number", 3), press.log), (8, ()))

    def test_paragraphs(self):
        pages, log = self.pages("ab\\par\\pagebox b")
        self.assertEqual(log, ())
        self.assertEqual([item[0] for item in pages[0].content], ["box", "box", "glue", "box"])
        self.assertEqual(letters_of(pages[1].content), "abbb")

    def test_faults(self):
        for row, word in (("\\pagebox\\pagebox", "pagebox"), ("a\\pagebox", "pagebox"), ("\\rowbox{\\pagebox}", "pagebox"), ("\\columnbox{\\pagebox}", "pagebox"), ("\\iftrue", "output"),
                          ("\\iftrue{\\else}\\fi", "output"), ("\\iffalse{\\fi}", "output"), ("\\fi", "extra"), ("\\else", "extra"), ("\\nope", "token"),
                          ("\\kern", "ended"), ("x ", "word"), ("x", "word"), ("\\penalty10001 ", "penalty"), ("\\define\\d{\\d}\\d", "steps"), ("\\define\\d a{}\\d b", "use"),
                          ("\\iftrue\\columnbox{\\else}\\fi", "output"), ("a\\skip1u minus1fil ", "par"), ("\\row99={}a\\par", "style")):
            for ahead in ("", "\\iftrue "):
                with self.subTest(row=row, ahead=ahead):
                    pages, log = self.pages(row, ahead + "\\rowbox{a}\\penalty-10000 \n")
                    self.assertEqual((pages, log), ((), (("fault", 1, word),)))

    def test_nothing_is_done_of_a_deed_whose_output_fails(self):
        text = "\\everywhere\\row90={\\ifnumber\\number94=2 \\nope\\fi\\pagebox\\everywhere\\number5=\\number94 }`\n\\rowbox{a}\\penalty-10000 \\rowbox{a}\\penalty-10000 \n"
        press = pressed(text, PAGE)
        self.assertEqual((len(press.pages), press.log, press.value_of("number", 94), press.value_of("number", 5), press.level, press.modes),
                         (1, (("fault", 1, "token"),), 1, 1, 0, ("column",)))
        # Both pages go out by one paragraph: nothing of it is done.
        text = "\\everywhere\\row90={\\ifnumber\\number94=2 \\nope\\fi\\pagebox\\everywhere\\number5=\\number94 }`\na\\penalty-10000 a\\penalty-10000 a\\penalty-10000 a\n\n"
        press = pressed(text, PageStyle(12))
        self.assertEqual((press.pages, press.log, press.value_of("number", 94), press.value_of("number", 5), press.level, press.modes),
                         ((), (("fault", 2, "token"),), 0, 0, 0, ("column", "row")))

    def test_nothing_is_done_at_the_end_if_an_output_fails(self):
        text = "\\everywhere\\row90={\\ifnumber\\number94=2 \\nope\\fi\\everywhere\\number5=\\number94 }\\skip1u\\rule1u9u0u\\kern1u\\rule1u9u0u"
        press = pressed(text + "\\note{\\rule1u1u0u}\\kern0u", PageStyle(9, notes=1))
        self.assertEqual(press.finish(), ())
        self.assertEqual((press.pages, press.log, press.value_of("number", 94), press.value_of("number", 5), press.level), ((), (("fault", 0, "token"),), 0, 0, 0))

    def test_page_boxes_behind_the_output(self):
        text = "\\row90={}\\rowbox{a}\\penalty-10000 "
        for ahead in ("\\row90={\\kern1u}", "\\row90={\\pagebox}"):
            press = pressed(ahead + text[9:] + "\\columnbox{\\pagebox}\n", PAGE)
            self.assertEqual((press.log, len(press.pages), press.modes), ((("fault", 0, "pagebox"),), 1, ("column", "inner column")))

    def test_group_and_list_limits(self):
        ahead = "\\row90={\\pagebox}" + "{" * 100 + "\\everywhere\\number3=1 "
        self.assertEqual(fault_of(ahead + "\\rule1u1u1u\\penalty-10000 \n", PAGE), ("fault", 0, "group"))
        self.assertEqual(pressed("\\row90={\\pagebox}" + "{" * 99 + "\\rule1u1u1u\\penalty-10000 \n", PAGE).log, ())

    def test_marks_that_cannot_be_tokens(self):
        text = "\\row90={\\pagebox}\\change{[}{open}\\change{]}{close}\\change{\\{}{other}\\mark[{]\\rule1u1u1u\\penalty-10000 \n"
        self.assertEqual(fault_of(text, PAGE), ("fault", 0, "penalty"))
        self.assertEqual(pressed(text.replace("\\row90={\\pagebox}", ""), PAGE).log, ())


class Finishing(unittest.TestCase):
    def test_ended(self):
        for text in ("{", "\\rowbox{", "\\columnbox{a", "\\iftrue", "\\iffalse", "\\note{", "{a", "\\kern", "\\define\\d", "\\define\\d#1{}\\d", "\\ifnumber1", "\\rowbox{}\\iftrue a"):
            self.assertEqual(fault_of(text), ("fault", 0, "ended"), text)

    def test_the_last_paragraph_is_a_deed_of_its_own(self):
        press = pressed("aaaaaa{`")
        self.assertEqual((press.log, press.modes), ((), ("column",)))
        press.finish()
        self.assertEqual((press.log, press.modes), ((("full", 0, 5), ("fault", 0, "ended")), ("column",)))
        self.assertEqual(fault_of("\\skip 1u minus 1fil \\rowbox{a}\\indent\\skip 1u minus 1fil "), ("fault", 0, "par"))
        self.assertEqual(fault_of("ax"), ("fault", 0, "word"))

    def test_builders_that_refuse(self):
        text = "\\rowbox{a}\\kern1073741823u \\kern1073741823u "
        self.assertEqual(fault_of(text), ("fault", 0, "ended"))
        self.assertEqual(fault_of(text + "\\penalty0 "), ("fault", 0, "penalty"))

    def test_pages_at_the_end(self):
        press = pressed("a\n\nb")
        self.assertEqual(press.pages, ())
        pages = press.finish()
        self.assertEqual((len(pages), press.pages, press.is_finished, press.is_stopped), (1, pages, True, False))
        self.assertRaises(InvalidOperation, press.finish)
        self.assertRaises(InvalidOperation, press.feed, "")

    def test_empty(self):
        self.assertEqual([set_text(text, STYLES, "ten", PAGE) for text in ("", "\n\n\n", "`x", "   \n", "{}\\number3=5 ")], [((), ())] * 5)


class Presses(unittest.TestCase):
    def test_state(self):
        press = Press(STYLES, "ten", PAGE)
        self.assertEqual((press.pages, press.log, press.modes, press.level, press.line, press.is_stopped, press.is_finished, len(press), list(press), str(press)),
                         ((), (), ("column",), 0, -1, False, False, 0, [], "press with 0 pages, in column"))
        came = press.feed("\\rowbox{a}\\penalty-10000 \\rowbox{b}\\penalty-10000 \n\n{a\n")
        self.assertEqual((len(press), list(press), press.pages, str(press), press.level, press.line), (2, list(came), came, "press with 2 pages, in row", 1, 2))
        self.assertIn(came[0], press)
        for value in (row_box(()), *ODD_VALUES):
            self.assertNotIn(value, press)

    def test_lines(self):
        press = pressed("`\n`\na\n`\n")
        self.assertEqual(press.line, 2)
        press.feed("\\kern\n`\n")
        self.assertEqual(press.line, 2)
        press.feed("1u\n")
        self.assertEqual(press.line, 6)

    def test_values(self):
        press = Press(STYLES, "ten", PAGE)
        for word in module.DEEDS:
            self.assertEqual(press.value_of("meaning", ("word", word)), ("command", word))
        self.assertEqual(press.value_of("meaning", ("word", "iftrue")), ("command", "iftrue"))
        self.assertEqual(press.value_of("row", 99), tokens_of("ten`"))
        for kind, key, error in (("x", 1, InvalidOperation), ("number", 256, InvalidNumber), ("meaning", 1, InvalidToken), ("sort", "ab", InvalidSort)):
            self.assertRaises(error, press.value_of, kind, key)

    def test_arguments(self):
        for value in (*ODD_VALUES, {"Ten": STYLE}, {"": STYLE}, {"a" * 13: STYLE}, {"ten": None}, {"ten": TEN}, {chr(97 + k // 26) + chr(97 + k % 26): STYLE for k in range(21)}, {1: STYLE}):
            self.assertRaises(InvalidRules, Press, value, None, None, limit=None)
        for value in ODD_VALUES:
            with self.assertRaises(UnknownName) as caught:
                Press(STYLES, value, None, limit=None)
            self.assertIs(caught.exception.asked, value)
            self.assertRaises(InvalidPage, Press, STYLES, "ten", value, limit=None)
            if value not in (1, 7) or isinstance(value, bool):
                self.assertRaises(InvalidNumber, lambda: Press(STYLES, "ten", PAGE, limit=value))
        for limit in (0, 100001):
            self.assertRaises(InvalidNumber, lambda: Press(STYLES, "ten", PAGE, limit=limit))
        many = {chr(97 + k // 26) + chr(97 + k % 26): STYLE for k in range(20)}
        self.assertEqual(Press(many, "aa", PAGE, limit=100000).value_of("row", 99), tokens_of("aa`"))

    def test_styles_are_not_shared(self):
        styles = dict(STYLES)
        press = Press(styles, "ten", PAGE)
        styles.clear()
        press.feed("a b\n")
        self.assertEqual(press.log, ())

    def test_pieces(self):
        press = Press(STYLES, "ten", PAGE)
        for value in ODD_VALUES:
            if not isinstance(value, str):
                with self.assertRaises(ParseError) as caught:
                    press.feed(value)
                self.assertIsNone(caught.exception.number)
                with self.assertRaises(ParseError):
                    set_text(value, None, None, None, limit=None)
        with self.assertRaises(ParseError) as caught:
            press.feed("ab\tc")
        self.assertEqual(caught.exception.number, 2)
        press.feed("`" + "a" * 19999)
        with self.assertRaises(TooMany) as caught:
            press.feed("a")
        self.assertEqual(caught.exception.limit, 20000)
        self.assertRaises(TooMany, set_text, "a" * 20001, None, None, None, limit=None)
        self.assertRaises(InvalidRules, set_text, "a", None, None, None, limit=None)
        self.assertEqual(press.log, ())


class AnywhereCut(unittest.TestCase):
    def told(self, text, pieces):
        press, came = Press(STYLES, "ten", PAGE), []
        for piece in pieces:
            came += press.feed(piece)
        came += press.finish()
        self.assertEqual(tuple(came), press.pages)
        return press.pages, press.log, press.modes, press.level, press.line, [press.value_of("number", index) for index in (3, 5, 7, 90, 94)]

    def test_drawn(self):
        draw, faults, pages = Random(70), {}, 0
        for _ in range(250):
            text = drawn_text(draw)
            whole = self.told(text, (text,))
            self.assertEqual(whole[:2], set_text(text, STYLES, "ten", PAGE))
            pages += len(whole[0])
            for entry in whole[1]:
                faults[entry[-1] if entry[0] == "fault" else "full"] = True
            for most in (1, 3, 30):
                pieces, at = [], 0
                while at < len(text):
                    size = draw.randint(1, most)
                    pieces.append(text[at:at + size])
                    at += size
                self.assertEqual(self.told(text, pieces), whole, text)
        self.assertGreater(pages, 200)
        self.assertGreater(len(faults), 6)

    def test_each_place(self):
        text = "\\define\\d#1{#1 #1}\\row90={\\pagebox\\kern1u }\n\\d{ab aba}\n\n\\rowbox to 30u{a\\number3=\n5 b}c\n\n\\change{c}{active}\\define c{ab}\nccc \\note{\\rowbox{b}}\n\n\\penalty-10000"
        whole = self.told(text, (text,))
        self.assertEqual(len(whole[0]), 3)
        for at in range(len(text)):
            self.assertEqual(self.told(text, (text[:at], text[at:])), whole)


class WrittenOut(unittest.TestCase):
    def test_drawn(self):
        """A text in which all uses of macros are written out has the same pages [17.11]."""
        draw = Random(71)
        for _ in range(60):
            bodies = {"x": draw.choice(("ab", "a b", "\\kern2u ", "\\par ", "{b}")), "y": draw.choice(("#1#1", "#1 a", "\\rowbox{#1}"))}
            pieces = [draw.choice(("a", "b c ", "\n\n", "\\x{}", "\\y{ab}", "\\y{a b}")) for _ in range(draw.randint(1, 30))]
            text = "".join(pieces)
            plain = text.replace("\\x{}", bodies["x"] + "{}")
            for argument in ("ab", "a b"):
                plain = plain.replace("\\y{" + argument + "}", bodies["y"].replace("#1", argument))
            ahead = f"\\define\\x{{{bodies['x']}}}\\define\\y#1{{{bodies['y']}}}`\n"
            self.assertEqual(set_text(ahead + text, STYLES, "ten", PAGE)[0], set_text("`\n" + plain, STYLES, "ten", PAGE)[0], text)


class PlainTexts(unittest.TestCase):
    def test_drawn(self):
        """Paragraphs of words alone: the pages are those that a builder makes of the items of all paragraphs."""
        draw = Random(73)
        for _ in range(60):
            words = [["".join([draw.choice("abc") for _ in range(draw.randint(1, 5))]) for _ in range(draw.randint(1, 12))] for _ in range(draw.randint(1, 6))]
            page = PageStyle(draw.choice((12, 30, 45, 90)), top=draw.choice((0, 9)))
            builder, boxes, depth, log, line = Builder(page), [], None, [], -1
            for paragraph_words in words:
                items = paragraph(STYLE, text_items(STYLE, " ".join(paragraph_words)), depth=depth)
                line += 2
                log += [("full", line, item[1].excess) for item in items if item[0] == "box" and item[1].excess > 0]
                boxes += [made.box for item in items for made in builder.put(item)]
                depth = items[-1][1].depth
            boxes += [made.box for made in builder.finish()]
            text = "".join([" ".join(paragraph_words) + "\n\n" for paragraph_words in words])
            self.assertEqual(set_text(text, STYLES, "ten", page), (tuple(boxes), tuple(log)))


class LettersOfAllPages(unittest.TestCase):
    def test_drawn(self):
        """Over all stages: the letters of all pages, but for hyphens put in, are those of the text."""
        draw = Random(72)
        for _ in range(80):
            words = ["".join([draw.choice("abc") for _ in range(draw.randint(1, 6))]) for _ in range(draw.randint(1, 60))]
            text = "".join([word + draw.choice((" ", "\n", "\n\n", "{}", "`x\n", "\\kern1u ", "\\penalty5 ")) for word in words])
            pages, log = set_text(text, STYLES, draw.choice(("ten", "wide")), PageStyle(draw.choice((15, 40, 200))))
            self.assertEqual([entry for entry in log if entry[0] == "fault"], [])
            self.assertEqual("".join([letters_of(page.content) for page in pages]).replace("-", ""), "".join(words))


if __name__ == "__main__":
    unittest.main()
