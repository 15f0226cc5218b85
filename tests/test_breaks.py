"""[11.1] to [11.11] and all that stands below "Stage 11: lines"."""

import unittest
from random import Random

import plain_lines as plain
from odd_values import ODD_VALUES
from pagewright.base.glue import Glue
from pagewright.base.lengths import MAX_LENGTH, is_length
from pagewright.errors import InvalidNumber, InvalidOperation, InvalidRow, InvalidRules, InvalidWay, TooMany
from pagewright.line import breaks as module
from pagewright.line.breaks import (
    Line, Rules, breaks_paper, cost_of, is_breaks_paper, is_measured, is_no_way_paper, is_way, least_breaks, next_places,
    no_way_paper, places_of,
)

SPACE = Glue(10, stretch=5, shrink=3)
END = ("penalty", -10000)
ROW = (("box", 30), ("glue", SPACE), ("box", 40), ("glue", SPACE), ("box", 20), ("part", 6, 0, 0), ("box", 20), ("penalty", 10000),
       ("glue", Glue(0, stretch=1, stretch_order=1)), END)
NARROW = Rules((80,), tolerance=1000)
FIRST = (-1, 0, 1, False)
LIMITS = {"tolerance": (0, 10000), "line": (0, 10000), "hyphen": (-9999, 10000), "unlike": (0, 1000000), "double": (0, 1000000),
          "last": (0, 1000000), "room": (0, MAX_LENGTH), "looseness": (-100, 100)}


def drawn_item(draw):
    kind = draw.choice(("box", "box", "glue", "glue", "penalty", "part"))
    if kind == "box":
        return ("box", draw.choice((5, 10, 12, 20, -3, 0)))
    if kind == "glue":
        return ("glue", Glue(draw.choice((3, 5, 0)), stretch=draw.choice((0, 2, 5)), stretch_order=draw.choice((0, 0, 0, 0, 1, 3)), shrink=draw.choice((0, 1, 3))))
    if kind == "penalty":
        return ("penalty", draw.choice((-10000, -9999, -300, -50, 0, 0, 40, 500, 9999, 10000)))
    return ("part", draw.choice((2, 0)), draw.choice((0, 1)), draw.choice((0, 4)))


def drawn_row(draw, many):
    return tuple([drawn_item(draw) for _ in range(many)] + [END])


def drawn_rules(draw):
    widths = tuple([draw.choice((12, 20, 25, 30)) for _ in range(draw.choice((1, 1, 2, 3)))])
    return Rules(widths, tolerance=draw.choice((0, 50, 200, 1000, 9999, 10000)), line=draw.choice((0, 1, 10)), hyphen=draw.choice((-50, 0, 50, 50, 9999, 10000)),
                 unlike=draw.choice((0, 3000)), double=draw.choice((0, 2000)), last=draw.choice((0, 1000)), room=draw.choice((0, 0, 4)),
                 looseness=draw.choice((0, 0, 0, 1, -1, 2, -3)))


def drawn(seed, many, longest=8):
    draw = Random(seed)
    for _ in range(many):
        yield drawn_row(draw, draw.randint(1, longest)), drawn_rules(draw), draw


class Examples(unittest.TestCase):
    def test_all(self):
        self.assertEqual([places_of(ROW, NARROW), next_places(ROW, NARROW, 3), places_of(ROW, NARROW.changed(hyphen=10000)), Line(ROW, NARROW, -1, 3, 1).natural],
                         [(1, 3, 5, 9), (5, 9), (1, 3, 9), 80])
        self.assertEqual([least_breaks(ROW, NARROW), cost_of(ROW, NARROW, (3, 9)), cost_of(ROW, NARROW, (1, 9)), is_way(ROW, NARROW, (3, 5, 9))],
                         [(3, 9), (0, 0, 200), (2, 7, 200420200), True])

    def test_constants(self):
        self.assertEqual((module.MAX_ITEMS, module.NEVER, module.FORCED, module.MAX_NODES), (1000, 10000, -10000, 20000))


class OfRules(unittest.TestCase):
    def test_values(self):
        rules = Rules((5, 0), tolerance=1, line=2, hyphen=3, unlike=4, double=5, last=6, room=7, looseness=8)
        names = ("widths", "tolerance", "line", "hyphen", "unlike", "double", "last", "room", "looseness")
        self.assertEqual([getattr(rules, name) for name in names], [(5, 0), 1, 2, 3, 4, 5, 6, 7, 8])
        self.assertEqual([getattr(Rules((9,)), name) for name in names], [(9,), 200, 10, 50, 10000, 10000, 5000, 0, 0])
        for name in names:
            other = rules.changed(**{name: (77,) if name == "widths" else 9})
            for told in names:
                self.assertEqual(getattr(other, told), getattr(rules, told) if told != name else (77,) if name == "widths" else 9)
            self.assertFalse(rules == other)
            self.assertTrue(other == rules.changed(**{name: getattr(other, name)}))
        self.assertTrue(rules.changed() == rules)
        for value in ODD_VALUES:
            self.assertTrue(rules != value)

    def test_limits(self):
        for name, (low, high) in LIMITS.items():
            for value in (low, high):
                self.assertEqual(getattr(Rules((1,), **{name: value}), name), value)
            for value in (low - 1, high + 1, None, True, False, "1", (1,), 10 ** 61):
                with self.subTest(name, value=value):
                    self.assertRaises(InvalidRules, lambda: Rules((1,), **{name: value}))
                    self.assertRaises(InvalidRules, NARROW.changed, **{name: value})

    def test_widths(self):
        self.assertEqual(Rules((0,) * 40).widths, (0,) * 40)
        for value in ((), (1,) * 41, (-1,), (MAX_LENGTH + 1,), (True,), [1], (1, None), 5, None, "1"):
            self.assertRaises(InvalidRules, Rules, value)
            self.assertRaises(InvalidRules, NARROW.changed, widths=value)

    def test_other_names(self):
        self.assertRaises(InvalidOperation, NARROW.changed, other=1)
        self.assertRaises(InvalidOperation, NARROW.changed, widths=None, other=1)
        self.assertRaises(InvalidOperation, NARROW.changed, others={"line": 1})


class Rows(unittest.TestCase):
    def test_fine(self):
        for row in (ROW, (END, END), (("box", 1), END), (("penalty", 10000), END), (("part", 1, -2, MAX_LENGTH), END),
                    (("glue", Glue(1, stretch=3, stretch_order=3, shrink=4)), END), (("box", -MAX_LENGTH),) * 999 + (END,)):
            self.assertIs(is_measured(row), True)

    def test_wrong(self):
        wrong = [(), (END,), (("box", 1),) * 1000 + (END,), (("box", 1),), (END, ("box", 1)), (END, ("penalty", -9999)), [("box", 1), END]]
        wrong += [(item, END) for item in (
            ("box",), ("box", None), ("box", True), ("box", MAX_LENGTH + 1), ("box", 1, 2), ("glue", 1), ("glue", Glue(1, shrink=1, shrink_order=1)), ("glue",),
            ("penalty", 10001), ("penalty", -10001), ("penalty", True), ("penalty", None), ("penalty",), ("part", 1, 2), ("part", None, 1, 2), ("part", 1, None, 2), ("part", 1, 2, None), ("part", 1, 2, 3, 4),
            ("part", (), (), ()), ("kern", 1), ["box", 1], ("letter", 1), (), "box", None, 1, (["box"], 1))]
        for value in (*wrong, *ODD_VALUES):
            with self.subTest(value=value):
                self.assertIs(is_measured(value), False)
                for ask in (lambda row: places_of(row, None), lambda row: next_places(row, None, None), lambda row: Line(row, None, None, None, None),
                            lambda row: is_way(row, None, ()), lambda row: cost_of(row, None, None), lambda row: least_breaks(row, None, wrong=None),
                            lambda row: breaks_paper(row, None, wrong=None), lambda row: is_breaks_paper(row, None, None, wrong=None),
                            lambda row: no_way_paper(row, None), lambda row: is_no_way_paper(row, None, None)):
                    self.assertRaises(InvalidRow, ask, value)

    def test_no_rules(self):
        for value in ODD_VALUES:
            for ask in (lambda rules: places_of(ROW, rules), lambda rules: next_places(ROW, rules, None), lambda rules: Line(ROW, rules, None, None, None),
                        lambda rules: is_way(ROW, rules, ()), lambda rules: cost_of(ROW, rules, None), lambda rules: least_breaks(ROW, rules, wrong=None),
                        lambda rules: breaks_paper(ROW, rules, wrong=None), lambda rules: is_breaks_paper(ROW, rules, None, wrong=None),
                        lambda rules: no_way_paper(ROW, rules), lambda rules: is_no_way_paper(ROW, rules, None)):
                self.assertRaises(InvalidRules, ask, value)

    def test_no_booleans(self):
        for value in (None, 0, 1, "True", (), ROW):
            self.assertRaises(InvalidOperation, least_breaks, ROW, NARROW, wrong=value)
            self.assertRaises(InvalidOperation, breaks_paper, ROW, NARROW, wrong=value)
            self.assertRaises(InvalidOperation, is_breaks_paper, ROW, NARROW, None, wrong=value)


class Places(unittest.TestCase):
    def test_drawn(self):
        for row, rules, _ in drawn(20, 800):
            self.assertEqual(places_of(row, rules), plain.places(row, rules))
            for place in (-1, *plain.places(row, rules)[:-1]):
                self.assertEqual(next_places(row, rules, place), plain.next_places(row, rules, place))

    def test_no_places(self):
        for value in ODD_VALUES + (0, 2, 4, 6, 7, 8, 9, 10, -2):
            if value != -1 and (value not in (1, 3, 5) or isinstance(value, bool)):
                for ask in (lambda place: next_places(ROW, NARROW, place), lambda place: Line(ROW, NARROW, place, None, None)):
                    with self.assertRaises(InvalidNumber) as caught:
                        ask(value)
                    self.assertIs(caught.exception.value, value)
        self.assertRaises(InvalidNumber, next_places, ROW, NARROW.changed(hyphen=10000), 5)

    def test_forced(self):
        row = (END, ("glue", SPACE), ("box", 5), ("glue", SPACE), END, ("box", 4), END)
        self.assertEqual([next_places(row, NARROW, place) for place in (-1, 0, 3, 4)], [(0,), (3, 4), (4,), (6,)])
        self.assertEqual([Line(row, NARROW, -1, 0, 1).natural, Line(row, NARROW, 3, 4, 1).start, Line(row, NARROW, 3, 4, 1).natural], [0, 4, 0])


class Lines(unittest.TestCase):
    def test_drawn(self):
        for row, rules, draw in drawn(21, 800):
            for place in (-1, *plain.places(row, rules)[:-1]):
                for end in plain.next_places(row, rules, place):
                    number = draw.randint(1, 4)
                    line, told = Line(row, rules, place, end, number), plain.line(row, rules, place, end, number)
                    self.assertEqual({name: getattr(line, name) for name in told}, told)
                    for tightness in range(4):
                        for is_part in (True, False):
                            self.assertEqual(line.demerits(tightness, is_part), plain.demerits(row, rules, end, told, tightness, is_part))

    def test_classes(self):
        row = (("box", 100), ("glue", Glue(10, stretch=100, shrink=100)), ("box", 10), END)
        for rest, badness, tightness in ((0, 0, 1), (49, 11, 1), (50, 12, 1), (51, 13, 2), (99, 97, 2), (100, 100, 3), (400, 6400, 3), (900, 10000, 3),
                                         (-50, 12, 1), (-51, 13, 0), (-100, 100, 0)):
            line = Line(row, Rules((120 + rest,), tolerance=badness), -1, 3, 1)
            self.assertEqual((line.badness_told, line.tightness, line.too_full, line.is_wrong), (badness, tightness, 0, False))
            if badness > 0:
                self.assertIs(Line(row, Rules((120 + rest,), tolerance=badness - 1), -1, 3, 1).is_wrong, True)
        line = Line(row, Rules((19,), tolerance=10000), -1, 3, 1)
        self.assertEqual((line.badness_told, line.tightness, line.too_full, line.is_wrong), (10000, 0, 1, True))

    def test_badness_99(self):
        row = (("box", 100), ("glue", Glue(10, stretch=997, shrink=997)), ("box", 10), END)
        for rest, badness, tightness in ((994, 99, 2), (993, 98, 2), (997, 100, 3), (-994, 99, 0)):
            line = Line(row[:1] + (("glue", Glue(1010 - rest, stretch=997, shrink=997)),) + row[2:], Rules((1120,)), -1, 3, 1)
            self.assertEqual((line.rest, line.badness_told, line.tightness), (rest, badness, tightness))

    def test_each_order_of_stretch(self):
        for orders in ((1,), (2,), (3,), (1, 2), (1, 3), (2, 3), (1, 2, 3)):
            for amounts in ((1, 1, 1), (1, 5, 5), (5, 1, 5), (5, 5, 1)):
                glues = tuple([("glue", Glue(0, stretch=amounts[order - 1], stretch_order=order)) for order in orders])
                line = Line((("box", 10), *glues, ("box", 1), END), Rules((100,)), -1, len(glues) + 2, 1)
                self.assertEqual((line.badness_told, line.tightness, line.stretches[0]), (0, 1, 0))
                self.assertEqual(line.stretches[1:], tuple([amounts[order - 1] if order in orders else 0 for order in (1, 2, 3)]))

    def test_great_sums(self):
        row = (("box", MAX_LENGTH),) * 900 + (("glue", Glue(0, stretch=MAX_LENGTH, shrink=MAX_LENGTH)),) * 90 + (END,)
        line = Line(row, Rules((5,)), -1, 990, 1)
        self.assertEqual((line.natural, line.shrink, line.too_full), (900 * MAX_LENGTH, 90 * MAX_LENGTH, 810 * MAX_LENGTH - 5))

    def test_wrong(self):
        for value in ODD_VALUES + (9, 3, 2, -1):
            if value not in (3, 5, 9):
                with self.assertRaises(InvalidNumber) as caught:
                    Line(ROW, NARROW, 1, value, None)
                self.assertIs(caught.exception.value, value)
            if value not in (1, 7, 3, 5, 9, 2) or isinstance(value, bool):
                with self.assertRaises(InvalidNumber) as caught:
                    Line(ROW, NARROW, 1, 3, value)
                self.assertIs(caught.exception.value, value)
        self.assertEqual(Line(ROW, NARROW, 1, 3, 1000).width, 80)
        self.assertRaises(InvalidNumber, Line, ROW, NARROW, 1, 3, 1001)
        line = Line(ROW, NARROW, 1, 3, 1)
        for value in ODD_VALUES + (4, -1, 2 ** 70):
            if value not in (0, 1) or isinstance(value, bool):
                self.assertRaises(InvalidOperation, line.demerits, value, None)
                self.assertRaises(InvalidOperation, line.demerits, value, False)
            if not isinstance(value, bool):
                self.assertRaises(InvalidOperation, line.demerits, 1, value)


class Ways(unittest.TestCase):
    def test_drawn(self):
        for row, rules, draw in drawn(22, 300, 7):
            ways = plain.all_ways(row, rules)
            for way in ways:
                self.assertIs(is_way(row, rules, way), True)
                self.assertEqual(cost_of(row, rules, way), plain.cost_of(row, rules, way))
                at = draw.randint(0, len(way))
                for other in (way[:at] + way[at + 1:], way[:at] + (draw.randint(-1, len(row)),) + way[at:], way[::-1], way[:-1]):
                    self.assertIs(is_way(row, rules, other), other in ways)

    def test_wrong(self):
        for value in ODD_VALUES + ((9, 9), (3,), (True, 9), (5, 3, 9), [3, 9], (3, 9, 10), (-1, 3, 9), (2, 9), ("3", 9), ((3, 9),)):
            self.assertIs(is_way(ROW, NARROW, value), False)
            self.assertRaises(InvalidWay, cost_of, ROW, NARROW, value)


class LeastWays(unittest.TestCase):
    def test_drawn(self):
        many = [0, 0]
        for row, rules, _ in drawn(23, 900):
            for wrong in (False, True):
                told = plain.least_cost(row, rules, wrong)
                way = least_breaks(row, rules, wrong=wrong)
                many[told is None] += 1
                if told is None:
                    self.assertIsNone(way)
                    self.assertIsNone(breaks_paper(row, rules, wrong=wrong))
                else:
                    self.assertIs(is_way(row, rules, way), True)
                    self.assertEqual((len(way), cost_of(row, rules, way)), told)
                    self.assertEqual(breaks_paper(row, rules, wrong=wrong)[1], way)
        self.assertGreater(min(many), 300)

    def test_each_looseness(self):
        row = tuple([item for k in range(8) for item in (("box", 8 + k), ("glue", Glue(4, stretch=4, shrink=2)))][:-1] + [END])
        lengths = []
        for looseness in (-100, -2, -1, 0, 1, 2, 3, 100):
            rules = Rules((30,), tolerance=10000, looseness=looseness)
            told = plain.least_cost(row, rules, False)
            way = least_breaks(row, rules)
            self.assertEqual((len(way), cost_of(row, rules, way)), told)
            lengths.append(len(way))
        self.assertGreater(len(set(lengths)), 2)

    def test_clean_and_not(self):
        row = (("box", 100), END)
        self.assertIsNone(least_breaks(row, NARROW))
        self.assertEqual(least_breaks(row, NARROW, wrong=True), (1,))


class Papers(unittest.TestCase):
    def changes(self, paper, row, draw):
        """The paper with one thing changed."""
        base, way, pairs = paper
        at = draw.randint(0, len(pairs) - 1)
        node, cost = pairs[at]
        for index in range(3):
            for more in (1, -1):
                other = cost[:index] + (cost[index] + more,) + cost[index + 1:]
                yield base, way, pairs[:at] + ((node, other),) + pairs[at + 1:]
        yield base, way, pairs[:at] + pairs[at + 1:]
        yield base, way, pairs[:at] + (pairs[at],) + pairs[at:]
        yield base, way, pairs[::-1]
        for extra in ((node[0], node[1] + 1, node[2], node[3]), (node[0], node[1], (node[2] + 1) % 4, node[3]), (len(row) - 1, draw.randint(1, 4), 3, False),
                      (node[0], node[1], node[2], not node[3]), (node[0], 0, node[2], node[3]), (node[0], node[1], 4, node[3]), (draw.randint(-2, len(row)), 1, 1, False)):
            for worth in ((draw.randint(-2, 2), 0, 10 ** 6), (-1, 0, 0)):
                yield base, way, tuple(sorted(dict([*pairs, (extra, worth)]).items()))
        ways = plain.all_ways(row, NARROW)
        yield draw.choice(ways), way, pairs
        yield base, draw.choice(ways), pairs
        yield way, base, pairs
        yield base, way
        yield base, way, pairs, ()
        yield [base, way, pairs]
        yield list(base), way, pairs
        yield base, way, list(pairs)
        yield base, way, tuple([list(pair) for pair in pairs])

    def test_drawn(self):
        found = {True: 0, False: 0}
        for row, rules, draw in drawn(24, 400, 6):
            for wrong in (False, True):
                paper = breaks_paper(row, rules, wrong=wrong)
                if paper is None:
                    continue
                self.assertIs(is_breaks_paper(row, rules, paper, wrong=wrong), True)
                self.assertIs(plain.is_paper(row, rules, paper, wrong), True)
                for other in self.changes(paper, row, draw):
                    told = plain.is_paper(row, rules, other, wrong)
                    found[told] += 1
                    self.assertIs(is_breaks_paper(row, rules, other, wrong=wrong), told, (row, other))
        self.assertGreater(found[True], 500)
        self.assertGreater(found[False], 5000)

    def test_no_papers(self):
        paper = breaks_paper(ROW, NARROW)
        for value in ODD_VALUES + ((), (paper,), paper[:2], (paper[0], paper[1], ()), (paper[0], paper[1], paper[2] + (1,)), (None, None, None)):
            self.assertIs(is_breaks_paper(ROW, NARROW, value), False)
        pairs = paper[2]
        for wrong in (((-1, 0, True, False), (0, 0, 0)), ((-1, 0, 1, 0), (0, 0, 0)), ((-1, False, 1, False), (0, 0, 0)), (FIRST, (0, 0, False)),
                      (FIRST, (0, 0)), (FIRST, (0, 0, 0, 0)), (FIRST, (0, 0, None)), (FIRST, (0, 0, -10 ** 60)), (FIRST, (0, 0, 1))):
            self.assertIs(is_breaks_paper(ROW, NARROW, (paper[0], paper[1], (wrong, *pairs[1:]))), False)
        self.assertIs(is_breaks_paper(ROW, NARROW, ((3, 9), (3, 9), pairs)), True)
        self.assertIs(is_breaks_paper(ROW, NARROW, ((True, 9), (3, 9), pairs)), False)
        self.assertIs(is_breaks_paper(ROW, NARROW, ((1, 9), (3, 9), pairs)), False)

    def test_a_paper_for_clean_ways_is_none_for_all(self):
        self.assertIs(is_breaks_paper(ROW, NARROW, breaks_paper(ROW, NARROW), wrong=True), False)
        self.assertIs(is_breaks_paper(ROW, NARROW, breaks_paper(ROW, NARROW, wrong=True), wrong=True), True)

    def test_papers_of_no_way(self):
        found = {True: 0, False: 0}
        for row, rules, draw in drawn(25, 900, 7):
            nodes = no_way_paper(row, rules)
            clean = plain.least_cost(row, rules, False) is not None
            self.assertIs(nodes is None, clean)
            if nodes is None:
                self.assertIs(is_no_way_paper(row, rules, (FIRST,)), False)
                continue
            self.assertIs(is_no_way_paper(row, rules, nodes), True)
            at = draw.randint(0, len(nodes) - 1)
            place, number, tightness, is_part = nodes[at]
            others = [nodes[:at] + nodes[at + 1:], nodes[::-1], nodes + nodes, [*nodes], nodes + ((len(row) - 1, 1, 1, False),), ()]
            for extra in ((place, number + 1, tightness, is_part), (place, number, (tightness + 1) % 4, is_part), (place, number, tightness, not is_part),
                          (place, number, 4, is_part), (place, 0, tightness, is_part), (len(row) - 1, 2, 1, False), (draw.randint(-2, len(row)), 1, 0, False)):
                others.append(tuple(sorted({*nodes, extra})))
            for other in others:
                told = plain.is_no_way(row, rules, other)
                found[told] += 1
                self.assertIs(is_no_way_paper(row, rules, other), told)
        self.assertGreater(found[True], 200)
        self.assertGreater(found[False], 1000)
        for value in ODD_VALUES + ((), (FIRST,), FIRST, (FIRST, None)):
            self.assertIs(is_no_way_paper(ROW, NARROW, value), False)


def pieces(many, behind):
    """So many boxes without a width, each with an item behind it."""
    return tuple([item for _ in range(many) for item in (("box", 0), behind)])


class Limits(unittest.TestCase):
    # Each line has the class 1, so the k-th place has k nodes, one for each number of lines.
    RULES = Rules((0,), tolerance=10000)

    def asks(self, row):
        return (lambda: least_breaks(row, self.RULES), lambda: least_breaks(row, self.RULES, wrong=True), lambda: breaks_paper(row, self.RULES),
                lambda: no_way_paper(row, self.RULES))

    def test_nodes(self):
        row = pieces(100, END) + pieces(197, ("penalty", 0)) + (END, ("box", 0), END)
        paper = breaks_paper(row, self.RULES)
        self.assertEqual(len(paper[2]), 1 + 100 + 197 * 198 // 2 + 198 + 198)
        self.assertEqual(len(paper[2]), 20000)
        self.assertIs(is_breaks_paper(row, self.RULES, paper), True)
        for ask in self.asks(row):
            ask()
        for ask in self.asks(pieces(1, END) + row):
            with self.assertRaises(TooMany) as caught:
                ask()
            self.assertEqual(caught.exception.limit, 20000)

    def test_judges_have_no_limit(self):
        row = pieces(1, END) + pieces(100, END) + pieces(197, ("penalty", 0)) + (END, ("box", 0), END)
        self.assertIs(is_breaks_paper(row, self.RULES, None), False)
        self.assertIs(is_no_way_paper(row, self.RULES, (FIRST,)), False)

    def test_items(self):
        row = (("box", 30), ("glue", Glue(3, stretch=1, shrink=1))) * 498 + (("box", 1), ("penalty", 10000), ("glue", Glue(0, stretch=1, stretch_order=1)), END)
        self.assertEqual(len(row), 1000)
        rules = Rules((96,), tolerance=10)
        way = least_breaks(row, rules)
        self.assertEqual((is_way(row, rules, way), cost_of(row, rules, way)[:2], len(way)), (True, (0, 0), 167))
        self.assertIs(is_breaks_paper(row, rules, breaks_paper(row, rules)), True)
        self.assertRaises(InvalidRow, least_breaks, (("box", 1),) + row, rules)


if __name__ == "__main__":
    unittest.main()
