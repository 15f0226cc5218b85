"""[12.1] to [12.7] and all that stands below "Stage 12"."""

import unittest
from random import Random

import plain_lines as plain
from odd_values import ODD_VALUES
from pagewright.base.glue import Glue
from pagewright.base.lengths import MAX_LENGTH, is_length
from pagewright.box.items import letters_of, width_of
from pagewright.box.packing import column_box, row_box
from pagewright.errors import InvalidGlue, InvalidItem, InvalidLength, InvalidOperation, InvalidRow, InvalidRules, InvalidWay, TooMany, UnknownName
from pagewright.font.fonts import Font, set_word
from pagewright.font.hyphens import Patterns
from pagewright.line.breaks import Rules, is_breaks_paper, is_measured, is_no_way_paper, is_way
from pagewright.line.paragraphs import (
    Broken, is_paper_of, measured, paragraph, text_items, text_paragraph, whole_items, with_hyphens, word_items,
)
from pagewright.line.styles import Style

TEN = Font("ten", {"a": (10, 6, 0), "b": (10, 8, 2), "-": (5, 3, 0)}, {})
STYLE = Style(TEN, (55,), Glue(10, stretch=5, shrink=2), patterns=Patterns(("a1b",), front=1, end=1), skip=Glue(12))
RICH = Font("rich", {"a": (10, 6, 0), "b": (10, 8, 2), "f": (5, 9, 0), "i": (4, 9, 0), "-": (5, 3, 0), ".": (3, 1, 0), "A": (12, 9, 0), "fi": (8, 9, 0)},
            {("f", "i"): ("join", "fi", "none"), ("a", "b"): ("kern", -1), ("b", "a"): ("kern", 2)})
A, B, HYPHEN = ("letter", TEN, "a"), ("letter", TEN, "b"), ("letter", TEN, "-")
END = ("penalty", -10000)
FILL = ("glue", Glue(0, stretch=65536, stretch_order=1))
TAIL = (("penalty", 10000), FILL, END)
DEFAULTS = {
    "patterns": None, "stops": {}, "shifts": (0,), "first": 100, "tolerance": 200, "room": 0, "line": 10, "hyphen": 50, "unlike": 10000, "double": 10000,
    "last": 5000, "looseness": 0, "indent": 0, "fill": Glue(0, stretch=65536, stretch_order=1), "skip": Glue(786432), "near_gap": Glue(65536), "least_gap": 0,
    "between": 0, "behind_first": 150, "ahead_last": 150, "behind_part": 100,
}
OTHERS = {
    "font": RICH, "widths": (7, 8), "space": Glue(3, stretch=1, stretch_order=2, shrink=4), "patterns": Patterns(()), "stops": {"a": 1, "b": 100000}, "shifts": (-5,) * 40,
    "first": -1, "tolerance": 0, "room": 5, "line": 0, "hyphen": -9999, "unlike": 0, "double": 1000000, "last": 7, "looseness": -100, "indent": -MAX_LENGTH,
    "fill": Glue(4, shrink=3), "skip": Glue(1, shrink=3, shrink_order=3), "near_gap": Glue(-5, stretch=1, stretch_order=3), "least_gap": -7, "between": -10000,
    "behind_first": 10000, "ahead_last": 9, "behind_part": -1,
}
WRONG = {
    "font": (None, "ten", 1, Patterns(())), "widths": ((), (1,) * 41, (-1,), (True,), [5], 5, None), "space": (None, 10, Glue(1, shrink=1, shrink_order=1), "1pt"),
    "patterns": (("a1b",), "a1b", 1, TEN), "stops": ({"x": 5}, {"a": 0}, {"a": 100001}, {"a": True}, {"a": None}, {1: 2}, ("a",), [("a", 5)], "a", 5),
    "shifts": ((), (1,) * 41, None, 5, [0], (True,), (MAX_LENGTH + 1,), ("1",)), "first": (-2, 10001, None, True, "5"), "tolerance": (-1, 10001, None, True),
    "room": (-1, MAX_LENGTH + 1, None, Glue(1)), "line": (-1, 10001, None), "hyphen": (-10000, 10001, None, False), "unlike": (-1, 1000001, None),
    "double": (-1, 1000001, None), "last": (-1, 1000001, None), "looseness": (-101, 101, None, True), "indent": (MAX_LENGTH + 1, None, True, "1"),
    "fill": (5, Glue(1, shrink=1, shrink_order=2), "1pt"), "skip": (5, "12pt", True), "near_gap": (1, (), False), "least_gap": (-MAX_LENGTH - 1, None, Glue(1)),
    "between": (-10001, 10001, None, True), "behind_first": (-10001, 10001, None), "ahead_last": (-10001, 10001, None), "behind_part": (-10001, 10001, None),
}


def letter(sign, font=TEN):
    return ("letter", font, sign)


def text_of_items(items):
    """Signs for items: letters, joins in brackets, `_` for glue, `'` for kerns and `^` for parts."""
    told = {"letter": lambda item: item[2], "join": lambda item: f"[{item[3]}]", "glue": lambda item: "_", "kern": lambda item: "'", "part": lambda item: "^"}
    return "".join([told[item[0]](item) for item in items])


class Styles(unittest.TestCase):
    def test_defaults(self):
        style = Style(TEN, (5,), Glue(1))
        told = {"font": TEN, "widths": (5,), "space": Glue(1), **DEFAULTS}
        self.assertEqual({name: getattr(style, name) for name in told}, told)
        self.assertEqual(list(told), list(dict.fromkeys([*told, *OTHERS])))
        self.assertTrue(style == Style(TEN, (5,), Glue(1), fill=None, skip=None, near_gap=None, stops=None, patterns=None))

    def test_each_value(self):
        style = Style(TEN, (5,), Glue(1))
        for name, value in OTHERS.items():
            other = style.changed(**{name: value})
            for told in OTHERS:
                self.assertEqual(getattr(other, told), value if told == name else getattr(style, told))
            self.assertTrue(other != style)
            self.assertTrue(other.changed(**{name: getattr(style, name)}) == style)
        whole = Style(**OTHERS)
        self.assertEqual({name: getattr(whole, name) for name in OTHERS}, OTHERS)
        self.assertTrue(whole == Style(**OTHERS))
        self.assertEqual(list(style.changed(stops={"b": 1, "a": 2}).stops), ["a", "b"])

    def test_none_in_changes(self):
        style = Style(**OTHERS).changed(fill=None, skip=None, near_gap=None, stops=None, patterns=None)
        for name in ("fill", "skip", "near_gap", "stops", "patterns"):
            self.assertEqual(getattr(style, name), DEFAULTS[name])

    def test_wrong_values(self):
        self.assertEqual(set(WRONG), set(OTHERS))
        for name, values in WRONG.items():
            for value in (*values, {}, 10 ** 60, [[]]) if name != "stops" else values:
                with self.subTest(name, value=value):
                    self.assertRaises(InvalidRules, STYLE.changed, **{name: value})
                    self.assertRaises(InvalidRules, lambda: Style(**{"font": TEN, "widths": (5,), "space": Glue(1), name: value}))

    def test_limits(self):
        for name, values in {"first": (-1, 10000), "between": (-10000, 10000), "behind_first": (-10000, 10000), "ahead_last": (-10000, 10000),
                             "behind_part": (-10000, 10000), "indent": (MAX_LENGTH, -MAX_LENGTH), "least_gap": (MAX_LENGTH, -MAX_LENGTH)}.items():
            for value in values:
                self.assertEqual(getattr(STYLE.changed(**{name: value}), name), value)

    def test_no_shared_state(self):
        stops = {"a": 5}
        style = STYLE.changed(stops=stops)
        stops["a"] = 6
        style.stops["a"] = 7
        self.assertEqual(style.stops, {"a": 5})

    def test_others(self):
        self.assertRaises(InvalidOperation, STYLE.changed, other=1)
        self.assertRaises(InvalidOperation, STYLE.changed, first=None, shift=1)
        for value in (*ODD_VALUES, Rules((55,)), TEN):
            self.assertTrue(STYLE != value)
            self.assertFalse(STYLE == value)


class Words(unittest.TestCase):
    def test_words(self):
        style = STYLE.changed(font=RICH)
        self.assertEqual(word_items(style, "afib"), (letter("a", RICH), ("join", RICH, "fi", "fi"), letter("b", RICH)))
        self.assertEqual(word_items(style, "aba"), (letter("a", RICH), ("kern", -1), letter("b", RICH), ("kern", 2), letter("a", RICH)))

    def test_wrong_words(self):
        for value in ODD_VALUES:
            if not isinstance(value, str) or not 1 <= len(value) <= 60:
                self.assertRaises(InvalidOperation, word_items, STYLE, value)
        with self.assertRaises(UnknownName) as caught:
            word_items(STYLE, "abx c")
        self.assertEqual(caught.exception.asked, "x")
        ring = Font("ring", {"a": (5, 4, 0), "b": (5, 7, 0), "x1": (1, 1, 0)}, {("a", "b"): ("join", "x1", "both"), ("a", "x1"): ("join", "b", "left")})
        self.assertRaises(InvalidOperation, word_items, STYLE.changed(font=ring), "ab")

    def test_texts(self):
        space = ("glue", STYLE.space)
        for text, told in (("", ()), ("   ", ()), ("a", (A,)), (" a  b ", (A, space, B)), ("ab b", (A, B, space, B))):
            self.assertEqual(text_items(STYLE, text), told)

    def test_stops(self):
        style = STYLE.changed(space=Glue(10, stretch=5, stretch_order=1, shrink=3), stops={"a": 3000, "b": 700})
        told = [item[1] for item in text_items(style, "ba ab - a") if item[0] == "glue"]
        self.assertEqual(told, [Glue(10, stretch=15, stretch_order=1, shrink=1), Glue(10, stretch=4, stretch_order=1, shrink=4), style.space])
        self.assertEqual(text_items(style.changed(stops={"a": 1}, space=Glue(3, stretch=400, stretch_order=2)), "a a")[1], ("glue", Glue(3)))

    def test_order_of_errors(self):
        style = STYLE.changed(stops={"a": 100000}, space=Glue(0, stretch=MAX_LENGTH))
        self.assertRaises(InvalidGlue, text_items, style, "a b")
        self.assertRaises(InvalidGlue, text_items, style, "b " * 5000 + "a b")
        self.assertRaises(InvalidGlue, text_items, STYLE.changed(stops={"a": 1}, space=Glue(0, shrink=MAX_LENGTH)), "a b")
        with self.assertRaises(UnknownName) as caught:
            text_items(style, "a bxq y")
        self.assertEqual(caught.exception.asked, "x")
        self.assertRaises(InvalidOperation, text_items, style, "a b " + "b" * 61 + " x")
        self.assertRaises(UnknownName, text_items, style, "%")
        for value in (*ODD_VALUES, "a\n", "a\t", "\x7f", "a" * 20001, " " * 20001):
            if not isinstance(value, str) or len(value) > 20000 or not value.isprintable():
                self.assertRaises(InvalidOperation, text_items, STYLE, value)
                self.assertRaises(InvalidOperation, text_paragraph, STYLE, value, depth="x")
        self.assertEqual(text_items(STYLE, " " * 20000), ())
        self.assertRaises(UnknownName, text_items, STYLE, "~")

    def test_number_of_items(self):
        self.assertEqual(len(text_items(STYLE, "a " * 999 + "ab")), 2000)
        with self.assertRaises(TooMany) as caught:
            text_items(STYLE, "a " * 999 + "aba")
        self.assertEqual(caught.exception.limit, 2000)

    def test_no_style(self):
        for value in ODD_VALUES:
            for ask in (lambda style: word_items(style, None), lambda style: text_items(style, None), lambda style: with_hyphens(style, None),
                        lambda style: whole_items(style, None), lambda style: Broken(style, None), lambda style: paragraph(style, None, depth="x"),
                        lambda style: text_paragraph(style, None, depth="x")):
                self.assertRaises(InvalidRules, ask, value)


class Hyphens(unittest.TestCase):
    def hyphened(self, items, style=STYLE):
        return text_of_items(with_hyphens(style, items))

    def test_put_in(self):
        self.assertEqual(self.hyphened(text_items(STYLE, "aab bab b abab")), "aa^b_ba^b_b_a^ba^b")
        self.assertEqual(with_hyphens(STYLE, (A, B))[1], ("part", (HYPHEN,), (), ()))
        some = text_items(STYLE, "aab b")
        self.assertEqual(tuple([item for item in with_hyphens(STYLE, some) if item[0] != "part"]), some)

    def test_without_patterns_or_hyphen(self):
        some = text_items(STYLE, "abab")
        self.assertEqual(with_hyphens(STYLE.changed(patterns=None), some), some)
        bare = Font("ten", {"a": (10, 6, 0), "b": (10, 8, 2)}, {})
        style = STYLE.changed(font=bare)
        self.assertEqual(with_hyphens(style, text_items(style, "ab")), text_items(style, "ab"))

    def test_runs(self):
        other = letter("a", Font("ten", {"a": (11, 6, 0)}, {}))
        for items, told in (((A, B, other, A, B), "a^baa^b"), ((A, ("kern", 1), B), "a'b"), ((("kern", 1), A, B), "'ab"), ((A, B, ("kern", 0)), "ab'"),
                            ((("kern", 1),), "'"), ((A, ("glue", Glue(1)), B), "a_b"), ((A, B, ("part", (), (), ()), A, B), "a^b^a^b"),
                            ((("join", TEN, "a", "a"), B), "[a]b"), ((("join", TEN, "a", ""), B), "[]b"), ((A, B) * 31, "ab" * 31), ((A, B) * 30, "a^b" * 30)):
            self.assertEqual(self.hyphened(items), told)
        box = ("box", row_box((A, B)), 0)
        self.assertEqual(with_hyphens(STYLE, (box,)), (box,))
        again = Font("ten", dict(TEN.signs), {})
        self.assertEqual(self.hyphened((letter("a", again), letter("b", again))), "a^b")

    def test_kerns_and_joins(self):
        style = STYLE.changed(font=RICH, patterns=Patterns(("a1b", "f1i", "i1a", "b1f"), front=1, end=1))
        for word, told in (("ab", "a'b"), ("fia", "[fi]^a"), ("aafi", "aa[fi]"), ("bfib", "b^[fi]b"), ("iab", "i^a'b")):
            self.assertEqual(self.hyphened(word_items(style, word), style), told)

    def test_core(self):
        style = STYLE.changed(font=RICH, patterns=Patterns(("b1b",), front=1, end=1))
        for word, told in (("bb", "b^b"), (".bb.", ".b^b."), ("Abb.bb", "Ab^b.bb"), ("A.", "A."), ("bAbb", "bAbb"), ("..bbb", "..b^b^b")):
            self.assertEqual(self.hyphened(word_items(style, word), style), told)

    def test_a_word_that_is_refused_alone(self):
        signs = {"a": (5, 4, 0), "b": (5, 7, 0), "-": (1, 1, 0)}
        font = Font("odd", signs, {("a", "a"): ("join", "b", "both"), ("b", "a"): ("kern", 0)})
        style = Style(font, (50,), Glue(5), patterns=Patterns(("a1a", "b1b"), front=1, end=1))
        items = word_items(style, "bb")
        self.assertEqual(text_of_items(with_hyphens(style, items)), "b^b")
        self.assertEqual(with_hyphens(style, word_items(style, "aa")), word_items(style, "aa"))

    def test_errors(self):
        for value in (*ODD_VALUES, (("rule", None, 1, 1),), [A]):
            if value != ():
                self.assertRaises(InvalidItem, with_hyphens, STYLE, value)
        items = text_items(STYLE, "ab " * 500)
        self.assertEqual(len(items), 1499)
        self.assertEqual(len(with_hyphens(STYLE, items)), 1999)
        self.assertEqual(len(with_hyphens(STYLE, text_items(STYLE, "ab " * 500 + "a")[:-2] + (A,))), 2000)
        with self.assertRaises(TooMany) as caught:
            with_hyphens(STYLE, text_items(STYLE, "ab " * 500 + "aba"))
        self.assertEqual(caught.exception.limit, 2000)
        shrinking = ("glue", Glue(1, shrink=1, shrink_order=1))
        self.assertEqual(with_hyphens(STYLE, (shrinking,)), (shrinking,))


class WholeItems(unittest.TestCase):
    def test_values(self):
        space = ("glue", STYLE.space)
        self.assertEqual(whole_items(STYLE, (A,)), (A, *TAIL))
        self.assertEqual(whole_items(STYLE, ()), TAIL)
        self.assertEqual(whole_items(STYLE, (A, space)), (A, *TAIL))
        self.assertEqual(whole_items(STYLE, (A, space, space)), (A, space, *TAIL))
        self.assertEqual(whole_items(STYLE, (space,)), TAIL)
        style = STYLE.changed(indent=-3, fill=Glue(7))
        self.assertEqual(whole_items(style, (A, B)), (("kern", -3), A, B, ("penalty", 10000), ("glue", Glue(7)), END))

    def test_measured(self):
        note, box = ("note", column_box(())), ("box", row_box((A, B)), 3)
        part = ("part", (HYPHEN, ("kern", 1)), (A,), (A, B))
        row = measured((A, ("join", TEN, "b", "xy"), ("kern", -4), box, ("rule", 9, None, 2), note, ("mark", "m"), ("penalty", 5), ("glue", STYLE.space), part, END))
        self.assertEqual(row, (("box", 10), ("box", 10), ("box", -4), ("box", 20), ("box", 9), ("box", 0), ("box", 0), ("penalty", 5), ("glue", STYLE.space),
                               ("part", 6, 10, 20), END))
        self.assertIs(is_measured(row), True)

    def test_errors(self):
        shrinking = ("glue", Glue(1, shrink=1, shrink_order=1))
        for value in (*ODD_VALUES, (("rule", None, 1, 1),), [A], (shrinking,), (A, shrinking, A)):
            if value != ():
                self.assertRaises(InvalidItem, measured, value)
                for ask in (whole_items, Broken, paragraph):
                    self.assertRaises(InvalidItem, ask, STYLE, value)
        for items in ((), (A,), (END,), (A, B), (A,) * 1000 + (END,), (("part", (), (), (("kern", MAX_LENGTH), ("kern", 1))), END)):
            self.assertRaises(InvalidRow, measured, items)
        self.assertEqual(len(measured((A,) * 999 + (END,))), 1000)


class Breaking(unittest.TestCase):
    def test_example(self):
        some = text_items(STYLE, " aab  ab b")
        broken = Broken(STYLE, some)
        self.assertEqual([len(some), [item[0] for item in with_hyphens(STYLE, some)][:5], len(whole_items(STYLE, some)), is_paper_of(broken, broken.papers())],
                         [8, ["letter", "letter", "part", "letter", "glue"], 11, True])
        self.assertEqual([broken.pass_number, broken.way, broken.cost, [letters_of(line) for line in broken.lines], [box.places for box in broken.boxes]],
                         [2, (6, 12), (0, 0, 7700), ["aaba-", "bb"], [(0, 10, 20, 30, 40, 50), (0, 10, 20, 30, 30)]])
        column = paragraph(STYLE, some)
        self.assertEqual([[item[0] for item in column], column[1], column[2] == ("glue", Glue(2))], [["box", "penalty", "glue", "box"], ("penalty", 400), True])

    def passes(self, style, items):
        """All passes of [12.4], as triples of whole items, rules, and whether all ways count."""
        rules = Rules(style.widths, tolerance=style.tolerance, line=style.line, hyphen=style.hyphen, unlike=style.unlike, double=style.double, last=style.last,
                      looseness=style.looseness)
        parted = whole_items(style, with_hyphens(style, items))
        found = {}
        if style.first >= 0:
            found[1] = (whole_items(style, items), rules.changed(tolerance=style.first), False)
        found[2] = (parted, rules, False)
        if style.room > 0:
            found[3] = (parted, rules.changed(room=style.room), False)
        found[4] = (parted, found.get(3, found[2])[1], True)
        return found

    def drawn_style(self, draw):
        return STYLE.changed(
            widths=tuple([draw.choice((40, 55, 70)) for _ in range(draw.choice((1, 1, 2, 3)))]), first=draw.choice((-1, 0, 100)), tolerance=draw.choice((0, 200, 1000)),
            room=draw.choice((0, 0, 10, 40)), looseness=draw.choice((0, 0, 1, -1)), indent=draw.choice((0, 0, 15, -5)), hyphen=draw.choice((50, 0, -20, 10000)),
            shifts=tuple([draw.choice((0, 3, -4)) for _ in range(draw.choice((1, 2)))]), double=draw.choice((0, 10000)), least_gap=draw.choice((0, 3, 9)),
            between=draw.choice((0, 0, 50, -150, 10000)), behind_first=draw.choice((150, 0, -10000)), near_gap=Glue(1, stretch=2), skip=Glue(12, stretch=1, shrink=3, shrink_order=1))

    def drawn_items(self, draw):
        items = list(text_items(STYLE, " ".join(["".join([draw.choice("aab") for _ in range(draw.randint(1, 4))]) for _ in range(draw.randint(0, 4))])))
        extra = [("mark", "m"), ("note", column_box((("rule", 1, 2, 3),))), ("penalty", draw.choice((-10000, 0, 100))), ("kern", 4), ("rule", 6, None, 1),
                 ("part", (HYPHEN,), (B,), (A, A)), ("box", row_box((A, B)), 2), ("mark", "n")]
        for _ in range(draw.choice((0, 0, 1, 3))):
            items.insert(draw.randint(0, len(items)), draw.choice(extra))
        return tuple(items)

    def test_drawn(self):
        draw, numbers = Random(30), {}
        for _ in range(700):
            style, items = self.drawn_style(draw), self.drawn_items(draw)
            broken = Broken(style, items)
            for number, (content, rules, wrong) in self.passes(style, items).items():
                told = plain.least_cost(measured(content), rules, wrong)
                if told is not None:
                    break
            numbers[number] = numbers.get(number, 0) + 1
            self.assertEqual((broken.pass_number, broken.content, broken.rules, len(broken.way), broken.cost), (number, content, rules, *told))
            self.assertTrue(broken.style == style)
            self.assertEqual(plain.cost_of(measured(content), rules, broken.way), told[1])
            self.check_lines(broken, style)
            self.check_papers(broken, style, items, draw)
            self.check_column(style, items, broken, draw.choice((None, 0, 2, 12)))
        self.assertGreater(min([numbers[number] for number in (1, 2, 3, 4)]), 20)

    def check_lines(self, broken, style):
        place, row = -1, measured(broken.content)
        self.assertEqual(len(broken), len(broken.way))
        self.assertEqual((len(broken.lines), len(broken.loose), len(broken.boxes)), (len(broken),) * 3)
        for index, end in enumerate(broken.way):
            told = []
            if place >= 0 and broken.content[place][0] == "part":
                told += broken.content[place][2]
            for item in broken.content[plain.start(row, place):end]:
                told += item[3] if item[0] == "part" else [item]
            if broken.content[end][0] == "part":
                told += broken.content[end][1]
            self.assertEqual(broken.lines[index], tuple([item for item in told if item[0] not in ("mark", "note")]))
            self.assertEqual(broken.loose[index], tuple([item for item in told if item[0] in ("mark", "note")]))
            width = style.widths[min(index, len(style.widths) - 1)]
            self.assertTrue(broken.boxes[index] == row_box(broken.lines[index], to=width))
            self.assertEqual(sum([width_of(item) for item in broken.lines[index]]), plain.line(row, broken.rules, place, end, index + 1)["natural"])
            place = end

    def check_papers(self, broken, style, items, draw):
        papers = broken.papers()
        tried = [told for number, told in self.passes(style, items).items() if number <= broken.pass_number]
        self.assertEqual(len(papers), len(tried))
        self.assertEqual(papers[-1][1], broken.way)
        for paper, (content, rules, wrong) in zip(papers, tried[:-1]):
            self.assertIs(is_no_way_paper(measured(content), rules, paper), True)
        self.assertIs(is_breaks_paper(measured(tried[-1][0]), tried[-1][1], papers[-1], wrong=tried[-1][2]), True)
        self.assertIs(is_paper_of(broken, papers), True)
        base, way, values = papers[-1]
        at = draw.randint(0, len(values) - 1)
        dearer = values[:at] + ((values[at][0], (values[at][1][0], values[at][1][1], values[at][1][2] + 1)),) + values[at + 1:]
        for other in (papers[1:], papers + papers[-1:], list(papers), papers[:-1] + ((base, way, values[:-1]),), papers[:-1] + ((base, way, dearer),),
                      ((),) + papers[1:], papers[:-1] + (None,), papers[:-1] + (papers[0],)):
            told = isinstance(other, tuple) and len(other) == len(tried) and all([
                is_no_way_paper(measured(content), rules, paper) for paper, (content, rules, _) in zip(other, tried[:-1])])
            told = told and is_breaks_paper(measured(tried[-1][0]), tried[-1][1], other[-1], wrong=tried[-1][2]) and other[-1][1] == broken.way
            self.assertIs(is_paper_of(broken, other), told)

    def check_column(self, style, items, broken, depth):
        told, ahead = [], depth
        for index, box in enumerate(broken.boxes):
            if ahead is not None:
                gap = 12 - ahead - box.height
                told.append(("glue", Glue(gap, stretch=1, shrink=3, shrink_order=1) if gap >= style.least_gap else Glue(1, stretch=2)))
            told.append(("box", box, style.shifts[min(index, len(style.shifts) - 1)]))
            told += broken.loose[index]
            if index < len(broken) - 1:
                penalty = style.between + (style.behind_first if index == 0 else 0) + (style.ahead_last if index == len(broken) - 2 else 0)
                penalty += style.behind_part if broken.content[broken.way[index]][0] == "part" else 0
                if penalty:
                    told.append(("penalty", max(-10000, min(10000, penalty))))
            ahead = box.depth
        self.assertEqual(paragraph(style, items, depth=depth), tuple(told))

    def test_the_least_room(self):
        # A box of 54 and a room of 1: badness 100 in the third pass.
        style = STYLE.changed(room=1, first=-1)
        items = (("kern", 54), END, ("kern", 55))
        self.assertEqual([Broken(style.changed(room=room), items).pass_number for room in (0, 1, 2)], [4, 3, 3])
        self.assertEqual(len(Broken(style, items).papers()), 2)

    def test_letters_of_all_lines(self):
        draw = Random(31)
        for _ in range(200):
            style, words = self.drawn_style(draw), ["".join([draw.choice("ab") for _ in range(draw.randint(1, 5))]) for _ in range(draw.randint(1, 5))]
            broken = Broken(style, text_items(style, " ".join(words)))
            letters = "".join([letters_of(line) for line in broken.lines])
            self.assertEqual(letters.replace("-", ""), "".join(words))
            self.assertEqual(letters.count("-"), len([place for place in broken.way if broken.content[place][0] == "part"]))

    def test_equality(self):
        some = text_items(STYLE, "aab ab b")
        broken = Broken(STYLE, some)
        self.assertTrue(broken == Broken(STYLE, some))
        self.assertTrue(broken == Broken(STYLE, some + (("glue", Glue(1)),)))
        self.assertEqual(Broken(STYLE, (A, A)).way, Broken(STYLE, (B, B)).way)
        self.assertTrue(Broken(STYLE, (A, A)) != Broken(STYLE, (B, B)))
        for other in (Broken(STYLE, some[:-1]), Broken(STYLE.changed(between=1), some), Broken(STYLE.changed(hyphen=10000), some), *ODD_VALUES):
            self.assertTrue(broken != other)

    def test_papers_of_nothing(self):
        papers = Broken(STYLE, (A,)).papers()
        for value in ODD_VALUES:
            with self.assertRaises(InvalidWay):
                is_paper_of(value, papers)
            self.assertIs(is_paper_of(Broken(STYLE, (A,)), value), False)


class Columns(unittest.TestCase):
    def test_gaps(self):
        # The first line is 8 high and 2 deep, the second one 6 high.
        items = (B, B, B, B, B, ("penalty", -10000), A)
        for skip, least, told in ((12, 4, 4), (12, 5, None), (11, 3, 3), (11, 4, None), (0, -8, -8), (0, -7, None)):
            style = STYLE.changed(skip=Glue(skip, stretch=7), least_gap=least, near_gap=Glue(99), first=-1)
            column = paragraph(style, items)
            self.assertEqual(column[2], ("glue", Glue(99) if told is None else Glue(told, stretch=7)))
        style = STYLE.changed(skip=Glue(12, stretch=7), near_gap=Glue(99))
        self.assertEqual([paragraph(style, (A,), depth=depth)[0] for depth in (0, 6, 7, -3)],
                         [("glue", Glue(6, stretch=7)), ("glue", Glue(0, stretch=7)), ("glue", Glue(99)), ("glue", Glue(9, stretch=7))])
        self.assertEqual(paragraph(style, (A,))[0][0], "box")

    def test_penalties(self):
        four = (A, END, A, END, A, END, A)
        for between, first, last, told in ((0, 0, 0, []), (5, 0, 0, [5, 5, 5]), (0, 7, 0, [7]), (0, 0, 9, [9]), (-7, 7, 0, [-7, -7]), (9990, 20, 5, [10000, 9990, 9995]),
                                           (-9990, -20, -9, [-10000, -9990, -9999])):
            style = STYLE.changed(between=between, behind_first=first, ahead_last=last, first=-1)
            self.assertEqual([item[1] for item in paragraph(style, four) if item[0] == "penalty"], told)
        two = STYLE.changed(between=1, behind_first=20, ahead_last=300)
        self.assertEqual([item[1] for item in paragraph(two, (A, END, A)) if item[0] == "penalty"], [321])
        self.assertEqual([item for item in paragraph(two, (A,)) if item[0] == "penalty"], [])

    def test_loose_items(self):
        note = ("note", column_box((("rule", 1, 2, 3),)))
        column = paragraph(STYLE, (("mark", "x"), A, note, END, B, ("mark", "y")))
        self.assertEqual([item[0] for item in column], ["box", "mark", "note", "penalty", "glue", "box", "mark"])
        self.assertEqual((column[1], column[2], column[6]), (("mark", "x"), note, ("mark", "y")))

    def test_empty(self):
        self.assertEqual([item[0] for item in paragraph(STYLE, ())], ["box"])
        self.assertEqual(text_paragraph(STYLE, "ab", depth=3), paragraph(STYLE, text_items(STYLE, "ab"), depth=3))

    def test_errors(self):
        for value in ODD_VALUES:
            if not is_length(value) and value is not None:
                self.assertRaises(InvalidLength, paragraph, STYLE, (A,), depth=value)
                self.assertRaises(InvalidLength, text_paragraph, STYLE, "a", depth=value)
                self.assertRaises(InvalidItem, paragraph, STYLE, None, depth=value)
        self.assertRaises(InvalidLength, paragraph, STYLE.changed(skip=Glue(MAX_LENGTH)), (A,), depth=-7)
        self.assertEqual(paragraph(STYLE.changed(skip=Glue(MAX_LENGTH)), (A,), depth=-6)[0], ("glue", Glue(MAX_LENGTH)))
        self.assertRaises(InvalidLength, paragraph, STYLE.changed(skip=Glue(-MAX_LENGTH)), (A,), depth=0)
        high = row_box((("rule", 1, MAX_LENGTH, MAX_LENGTH),))
        self.assertRaises(InvalidLength, paragraph, STYLE, (("box", high, 1),))
        box = row_box((A,))
        for _ in range(98):
            box = row_box((("box", box, 0),))
        self.assertEqual(len(Broken(STYLE, (("box", box, 0),)).boxes), 1)
        self.assertRaises(InvalidItem, paragraph, STYLE, (("box", box, 0),))
        self.assertRaises(InvalidItem, paragraph, STYLE.changed(skip=Glue(MAX_LENGTH)), (("box", box, 0),), depth=-9)
        self.assertRaises(InvalidLength, paragraph, STYLE, (("box", box, 0),), depth="x")

    def test_lines_that_are_refused(self):
        part = ("part", (), (), (("kern", 0),) * 1500)
        broken = Broken(STYLE, (part, part))
        with self.assertRaises(InvalidItem):
            broken.boxes
        self.assertRaises(InvalidItem, paragraph, STYLE, (part, part))


class Limits(unittest.TestCase):
    def check(self, limit, ask, *told, **named):
        with self.assertRaises(TooMany) as caught:
            ask(*told, **named)
        self.assertEqual(caught.exception.limit, limit)

    def test_whole_items(self):
        wide = STYLE.changed(widths=(10 ** 6,))
        self.assertEqual(len(Broken(wide, (A,) * 997)), 1)
        self.check(1000, Broken, wide, (A,) * 998)
        self.check(1000, Broken, wide.changed(indent=1), (A,) * 997)
        self.check(1000, paragraph, wide, (A,) * 998, depth="x")
        items = text_items(wide, "ab " * 249)
        self.assertEqual((len(items), len(with_hyphens(wide, items))), (746, 995))
        self.assertEqual(len(Broken(wide, items)), 1)
        items = text_items(wide, "ab " * 250)
        self.assertEqual(len(whole_items(wide, with_hyphens(wide, items))), 1002)
        self.check(1000, Broken, wide, items)

    def test_items_with_hyphens(self):
        self.check(2000, Broken, STYLE, text_items(STYLE, "ab " * 500 + "aba"))
        self.check(1000, Broken, STYLE, (("part", (), (), (("kern", MAX_LENGTH), ("kern", 1))),) * 1000)
        self.assertRaises(InvalidRow, Broken, STYLE, (("part", (), (), (("kern", MAX_LENGTH), ("kern", 1))),))

    def test_nodes(self):
        zero = STYLE.changed(widths=(0,), tolerance=10000, first=10000, patterns=None)
        pieces = lambda many, behind: (("kern", 0), behind) * many
        row = pieces(100, END) + pieces(197, ("penalty", 0)) + (END, ("kern", 0))
        self.assertGreater(len(Broken(zero, row)), 100)
        self.check(20000, Broken, zero, pieces(1, END) + row)
        self.check(20000, paragraph, zero, pieces(1, END) + row)


if __name__ == "__main__":
    unittest.main()
