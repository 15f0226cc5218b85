"""[14.1] to [14.8] and all that stands below "Stage 14: pages as they come"."""

import unittest
from random import Random

import plain_pages as plain
from odd_values import ODD_VALUES
from pagewright.base.glue import Glue
from pagewright.base.lengths import MAX_LENGTH
from pagewright.box.packing import column_box, row_box
from pagewright.errors import InvalidItem, InvalidLength, InvalidNumber, InvalidOperation, InvalidPage, TooMany
from pagewright.page import builder as module
from pagewright.page.builder import Builder, Page, PageStyle, filled, page_of, places_of

LINE = ("box", column_box((("rule", 0, 8, 2),)), 0)
GAP = ("glue", Glue(2, stretch=2, shrink=1))
ROW = (LINE, GAP, LINE, GAP, LINE, GAP, LINE)
STYLE = PageStyle(30)
FORCED = ("penalty", -10000)


def rule(height, depth=0):
    return ("rule", 5, height, depth)


def note(*items):
    return ("note", column_box(items))


LONG_NOTE = note(rule(4, 1), GAP, rule(4, 1), ("penalty", 30), rule(4, 1), ("penalty", -10000), rule(3))


def drawn_note(draw):
    choices = (rule(3, 1), rule(2), rule(4), GAP, ("kern", draw.choice((1, -2))), ("penalty", draw.choice((0, 50, -100, 10000, -10000))), ("glue", Glue(1)))
    return note(*[draw.choice(choices) for _ in range(draw.randint(0, 6))])


def drawn_item(draw):
    kind = draw.random()
    if kind < 0.4:
        return draw.choice((LINE, rule(6, 1), rule(9), rule(3, 4), rule(-2, 1)))
    if kind < 0.65:
        return ("glue", Glue(draw.choice((1, 2, 4)), stretch=draw.choice((0, 2, 5)), stretch_order=draw.choice((0, 0, 0, 1)), shrink=draw.choice((0, 1, 2)),
                             shrink_order=draw.choice((0, 0, 0, 0, 1))))
    if kind < 0.8:
        return ("penalty", draw.choice((0, 0, 100, -200, 9999, 10000, -10000)))
    if kind < 0.9:
        return drawn_note(draw)
    return draw.choice((("mark", "m"), ("mark", "n"), ("kern", 3), ("kern", -1)))


def drawn_style(draw):
    height = draw.choice((20, 30, 40))
    return PageStyle(height, top=draw.choice((0, 0, 7, 12)), skip=draw.choice((None, Glue(3, shrink=2), Glue(1, stretch=1), Glue(2, shrink=1, shrink_order=1))),
                     notes=draw.choice((None, 0, 6, 12)), waiting=draw.choice((0, 10, 3000)))


def drawn(seed, many, longest=14):
    draw = Random(seed)
    for _ in range(many):
        yield tuple([drawn_item(draw) for _ in range(draw.randint(1, longest))]), drawn_style(draw), draw


WIDE = row_box((("kern", MAX_LENGTH - 2),))
# Its parts from the first solid one on take 4 units, but a place between them is no length.
ODD_NOTE = note(("kern", -MAX_LENGTH), rule(1), ("kern", MAX_LENGTH), ("kern", MAX_LENGTH - 2), ("kern", -MAX_LENGTH), ("kern", 5 - MAX_LENGTH), ("penalty", 0), rule(1))


def drawn_great_item(draw):
    size = draw.choice((5, 1000, MAX_LENGTH // 3, MAX_LENGTH // 2, MAX_LENGTH - 7))
    kind = draw.random()
    if kind < 0.35:
        return draw.choice((rule(size), rule(-size, 3), rule(3, size), ("box", WIDE, draw.choice((0, 2, 3, -4)))))
    if kind < 0.6:
        return ("kern", draw.choice((size, -size)))
    if kind < 0.8:
        return ("glue", Glue(draw.choice((size, -size, 0)), stretch=draw.choice((0, 1, size)), stretch_order=draw.choice((0, 0, 1)), shrink=draw.choice((0, 5, size)),
                             shrink_order=draw.choice((0, 0, 2))))
    return ("penalty", draw.choice((0, 0, 50, 10000, -10000)))


def drawn_great(seed, many):
    draw = Random(seed)
    for _ in range(many):
        style = PageStyle(draw.choice((20, 5000, MAX_LENGTH // 2, MAX_LENGTH)), top=draw.choice((0, 10, MAX_LENGTH // 4)))
        yield tuple([drawn_great_item(draw) for _ in range(draw.randint(1, 8))]), style, draw


def told(page):
    return page.start, page.stop, page.begin, page.end, page.cost, page.box, page.marks


class Examples(unittest.TestCase):
    def test_all(self):
        builder = Builder(STYLE)
        self.assertEqual([places_of(ROW), [page_of(ROW, STYLE, start, stop, (0, 0), (0, 0)).cost for start, stop in ((0, 3), (0, 5), (1, 5))]],
                         [(1, 3, 5), [(0, 6400), (2, 10000), (0, 6400)]])
        self.assertEqual([[str(page) for item in ROW for page in builder.put(item)], builder.start, builder.best, [(str(page), page.cost) for page in builder.finish()]],
                         [["page 0 to 3"], 3, (5, (0, 0), (0, 10000)), [("page 3 to 8", (0, 0))]])

    def test_constants(self):
        self.assertEqual((module.FORCED, module.BARRED, module.MAX_HELD), (-10000, 10000, 1500))


class Styles(unittest.TestCase):
    def test_values(self):
        style = PageStyle(50, top=3, skip=Glue(7), notes=0, waiting=10000)
        self.assertEqual((style.height, style.top, style.skip, style.notes, style.waiting), (50, 3, Glue(7), 0, 10000))
        self.assertEqual((STYLE.height, STYLE.top, STYLE.skip, STYLE.notes, STYLE.waiting), (30, 0, Glue(0), 30, 0))
        self.assertTrue(STYLE == PageStyle(30, skip=Glue(0), notes=30))
        for other in (PageStyle(31, notes=30), PageStyle(30, top=1), PageStyle(30, skip=Glue(1)), PageStyle(30, notes=29), PageStyle(30, waiting=1), *ODD_VALUES):
            self.assertTrue(STYLE != other)

    def test_wrong(self):
        wrong = {"height": (0, -1, MAX_LENGTH + 1, None, True, "30"), "top": (-1, MAX_LENGTH + 1, None, True), "skip": (0, "1pt", True),
                 "notes": (-1, MAX_LENGTH + 1, True, "5"), "waiting": (-1, 10001, None, True, "1")}
        for name, values in wrong.items():
            for value in values:
                with self.subTest(name, value=value):
                    self.assertRaises(InvalidPage, lambda: PageStyle(**{"height": 30, name: value}))
        self.assertEqual(PageStyle(MAX_LENGTH, top=MAX_LENGTH, notes=MAX_LENGTH).height, MAX_LENGTH)


class Pages(unittest.TestCase):
    def test_drawn(self):
        many = [0, 0, 0]
        for row, style, draw in drawn(40, 250, 10):
            self.assertEqual(places_of(row), plain.places(row))
            cuts = plain.cuts(row)
            for _ in range(60):
                start, stop, begin, end = draw.randint(-1, len(row)), draw.randint(-1, len(row)), draw.choice(cuts), draw.choice(cuts)
                fine = plain.page_items(row, start, stop) is not None and begin[0] + int(begin[1] > 0) <= len([at for at, _ in plain.notes(row) if at < stop])
                if not fine:
                    self.assertRaises(InvalidPage, page_of, row, style, start, stop, begin, end, top_mark=None)
                    self.assertRaises(InvalidPage, filled, row, style, start, stop, begin)
                    many[0] += 1
                    continue
                self.assertEqual(filled(row, style, start, stop, begin), plain.filled(row, style, start, stop, begin))
                if not plain.can_end(row, style, stop, begin, end):
                    self.assertRaises(InvalidPage, page_of, row, style, start, stop, begin, end, top_mark=None)
                    many[1] += 1
                    continue
                page = page_of(row, style, start, stop, begin, end, top_mark="t")
                many[2] += 1
                self.assertEqual(told(page), (start, stop, begin, end, plain.cost(row, style, start, stop, begin, end), plain.box(row, style, start, stop, begin, end),
                                              plain.marks(row, start, stop, "t")))
                self.assertEqual(page.box.height + page.box.depth, style.height)
        self.assertGreater(min(many), 100)

    def test_top(self):
        row = (GAP, LINE, GAP)
        self.assertEqual([page_of(row, PageStyle(30, top=top), 0, 2, (0, 0), (0, 0)).box.content[0] for top in (0, 7, 8, 9, 30)],
                         [("glue", Glue(natural)) for natural in (0, 0, 0, 1, 22)])
        self.assertEqual(page_of(row, STYLE, 0, 2, (0, 0), (0, 0)).box.content, (("glue", Glue(0)), LINE))

    def test_cuts_of_notes(self):
        row = (LINE, LONG_NOTE, ("penalty", 7), LINE, ("penalty", 0))
        style = PageStyle(30, skip=Glue(3), notes=12, waiting=100)
        for end, content in (((0, 0), None), ((0, 1), 5), ((0, 3), 12)):
            page = page_of(row, style, 0, 2, (0, 0), end)
            if content is None:
                self.assertEqual(page.box.content, (("glue", Glue(0)), LINE))
                self.assertEqual(page.cost, (0, 10000 + 7 + 100))
            else:
                self.assertEqual(page.box.content[2], ("glue", Glue(3)))
                self.assertEqual(page.box.content[3][1].height + page.box.content[3][1].depth, content)
                self.assertEqual(page.cost, (0, 10000 + 7 + 100 + (30 if end == (0, 3) else 0)))
        for end in ((0, 5), (1, 0), (0, 2), (0, 4), (0, 6), (0, 7), (2, 0), (1, 1), (0, -1), (-1, 0), (True, 0), (0, False), (0, 1, 0), [0, 1], None):
            self.assertRaises(InvalidPage, page_of, row, style, 0, 2, (0, 0), end)
        wide = PageStyle(60, notes=60)
        self.assertEqual(page_of(row, wide, 0, 2, (0, 1), (1, 0)).box.content[3][1].content, LONG_NOTE[1].content[2:])
        self.assertEqual(page_of(row, wide, 0, 2, (0, 0), (1, 0)).cost, (0, 10007))
        self.assertEqual(page_of(row, wide, 0, 2, (0, 5), (0, 5)).cost[1], 10007)
        self.assertEqual(page_of(row, wide, 3, 4, (0, 3), (0, 3)).cost[1], 10000 + 30)
        for begin in ((1, 1), (0, 2), (2, 0), (1, 0, 0), None, (0,), (True, 0), (0, "1")):
            self.assertRaises(InvalidPage, page_of, row, wide, 0, 2, begin, (1, 0))
            self.assertRaises(InvalidPage, filled, row, wide, 0, 2, begin)

    def test_beginnings_ahead_of_the_stop(self):
        row = (LINE, GAP, LONG_NOTE, LINE, GAP)
        self.assertEqual(filled(row, STYLE, 0, 1, (0, 0)), (0, 0))
        for begin in ((0, 1), (0, 3), (1, 0)):
            self.assertRaises(InvalidPage, filled, row, STYLE, 0, 1, begin)
            self.assertRaises(InvalidPage, page_of, row, STYLE, 0, 1, begin, begin)
        self.assertRaises(InvalidPage, page_of, row, STYLE, 0, 1, (0, 0), (0, 1))
        self.assertEqual(page_of(row, STYLE, 3, 4, (1, 0), (1, 0)).end, (1, 0))

    def test_wrong(self):
        for value in (*ODD_VALUES, (("letter", 1),), (("rule", None, None, 1),), (note(("mark", "x")),), (note(note()),), (("mark", "x"),) * 1501):
            if value == ():
                continue
            self.assertRaises(InvalidItem, places_of, value)
            self.assertRaises(InvalidItem, page_of, value, None, None, None, None, None, top_mark=None)
            self.assertRaises(InvalidItem, filled, value, None, None, None, None)
        for value in ODD_VALUES:
            self.assertRaises(InvalidPage, page_of, ROW, value, 0, 3, (0, 0), (0, 0), top_mark=None)
            self.assertRaises(InvalidPage, filled, ROW, value, 0, 3, (0, 0))
            for start, stop in ((value, 3), (0, value)):
                if value not in (0, 1, 7) or isinstance(value, bool):
                    self.assertRaises(InvalidPage, page_of, ROW, STYLE, start, stop, (0, 0), (0, 0), top_mark=None)
                    self.assertRaises(InvalidPage, filled, ROW, STYLE, start, stop, (0, 0))
            if not isinstance(value, str) or len(value) > 100 or "\n" in value or "%" in value:
                self.assertRaises(InvalidItem, page_of, ROW, STYLE, 0, 3, (0, 0), (0, 0), top_mark=value)
        self.assertEqual(places_of((("mark", "x"),) * 1500), ())
        # A box can have notes; marks and notes of a note are looked for in the note itself.
        inner = ("box", column_box((note(("mark", "x")), ("mark", "y"))), 0)
        self.assertEqual(places_of((inner, ("note", column_box((inner,))), GAP)), (2,))

    def test_forced_places(self):
        row = (LINE, GAP, FORCED, LINE, GAP, LINE, FORCED)
        self.assertEqual(page_of(row, STYLE, 0, 2, (0, 0), (0, 0)).stop, 2)
        for start, stop in ((0, 4), (0, 6), (2, 2), (4, 3), (1, 2), (2, 3)):
            self.assertRaises(InvalidPage, page_of, row, STYLE, start, stop, (0, 0), (0, 0))
        for start, stop in ((1, 4), (2, 4), (1, 6), (3, 6)):
            self.assertEqual(page_of(row, STYLE, start, stop, (0, 0), (0, 0)).start, start)

    def test_results_that_are_no_lengths(self):
        row = (LINE, ("kern", MAX_LENGTH), ("kern", MAX_LENGTH), FORCED)
        self.assertRaises(InvalidLength, page_of, row, STYLE, 0, 3, (0, 0), (0, 0))
        self.assertRaises(InvalidLength, filled, row, STYLE, 0, 3, (0, 0))
        self.assertRaises(InvalidItem, page_of, row, STYLE, 0, 3, (0, 0), (0, 0), top_mark="\n")
        self.assertRaises(InvalidLength, page_of, (("box", row_box((("kern", MAX_LENGTH),)), 1), FORCED), STYLE, 0, 1, (0, 0), (0, 0))
        back = (LINE, ("kern", MAX_LENGTH), ("kern", 1 - MAX_LENGTH), FORCED)
        self.assertRaises(InvalidLength, page_of, back, STYLE, 0, 3, (0, 0), (0, 0))

    def test_pieces_that_are_refused(self):
        small = note(rule(2))
        row = (LINE, small, ODD_NOTE, small, GAP)
        self.assertEqual(plain.cuts(row), [(0, 0), (1, 0), (1, 6), (2, 0), (3, 0)])
        fine = {begin: [end for end in plain.cuts(row) if plain.can_end(row, STYLE, 4, begin, end)] for begin in plain.cuts(row)}
        self.assertEqual(fine[(0, 0)], [(0, 0), (1, 0)])
        self.assertEqual(fine[(1, 6)], [(1, 6), (2, 0), (3, 0)])
        for begin in fine:
            self.assertEqual(filled(row, STYLE, 0, 4, begin), fine[begin][-1])
            for end in plain.cuts(row):
                if end in fine[begin]:
                    self.assertEqual(page_of(row, STYLE, 0, 4, begin, end).end, end)
                else:
                    self.assertRaises(InvalidPage, page_of, row, STYLE, 0, 4, begin, end)
        builder = Builder(STYLE)
        for item in row:
            builder.put(item)
        self.assertEqual(builder.best, (4, (1, 0), (0, 10000)))
        self.assertRaises(InvalidLength, builder.finish)
        self.assertEqual((builder.is_finished, builder.held), (False, row))

    def test_great_sizes(self):
        found = {True: 0, False: 0}
        for row, style, draw in drawn_great(43, 700):
            for start in range(len(row)):
                for stop in plain.places(row):
                    if plain.page_items(row, start, stop) is not None:
                        try:
                            cost, box = plain.cost(row, style, start, stop, (0, 0), (0, 0)), plain.box(row, style, start, stop, (0, 0), (0, 0))
                        except (InvalidLength, InvalidItem) as error:
                            found[False] += 1
                            self.assertRaises(type(error), page_of, row, style, start, stop, (0, 0), (0, 0))
                            self.assertRaises(type(error), filled, row, style, start, stop, (0, 0))
                        else:
                            found[True] += 1
                            page = page_of(row, style, start, stop, (0, 0), (0, 0))
                            self.assertEqual((page.cost, page.box), (cost, box))
        self.assertGreater(min(found.values()), 150)

    def test_no_items_of_a_column(self):
        low = ("rule", 1, -MAX_LENGTH, 0)
        self.assertRaises(InvalidItem, page_of, (low, FORCED), PageStyle(30, top=5), 0, 1, (0, 0), (0, 0))
        crowd = ("box", column_box((("kern", 0),) * 1999), 0)
        row = (crowd,) * 600 + (FORCED,)
        self.assertRaises(InvalidItem, places_of, row)

    def test_moved(self):
        page = page_of((LINE, LONG_NOTE, GAP, LINE, ("mark", "x"), GAP), STYLE, 3, 5, (0, 3), (1, 0), top_mark="t")
        other = page.moved(10, 3)
        self.assertEqual(told(other), (13, 15, (3, 3), (4, 0), *told(page)[4:]))
        self.assertTrue(other.moved(-10, -3) == page)
        self.assertTrue(page.moved(0, 0) == page)
        self.assertEqual(str(page.moved(-3, 0)), "page 0 to 2")
        for items, notes, wrong in ((-4, 0, -4), (-4, None, -4), (0, -1, -1), (None, None, None), (True, 0, True), (0, True, True), ("1", 0, "1"), (10 ** 60, 0, 10 ** 60)):
            with self.assertRaises(InvalidNumber) as caught:
                page.moved(items, notes)
            self.assertEqual(caught.exception.value, wrong)
            self.assertIs(type(caught.exception.value), type(wrong))

    def test_equality(self):
        row = (LINE, ("mark", "x"), GAP, LINE, LONG_NOTE, GAP)
        page = page_of(row, STYLE, 0, 2, (0, 0), (0, 0))
        self.assertIsInstance(page, Page)
        self.assertTrue(page == page_of(row[:3], STYLE, 0, 2, (0, 0), (0, 0)))
        for other in (page.moved(1, 0), page.moved(0, 1), page_of(row, STYLE, 0, 2, (0, 0), (0, 0), top_mark="y"), page_of(row, PageStyle(30, top=9), 0, 2, (0, 0), (0, 0)),
                      page_of(row, STYLE, 0, 5, (0, 0), (0, 0)), *ODD_VALUES):
            self.assertTrue(page != other)
        one, two = [page_of(row, STYLE, 0, 5, (0, 0), end) for end in ((0, 0), (0, 1))]
        self.assertTrue(one != two)


class Builders(unittest.TestCase):
    def check_state(self, builder, row, style, model):
        pages, _, best, start, begin, mark = model
        self.assertEqual((builder.start, builder.cut, builder.top_mark, builder.held), (start, begin, mark, row[start:]))
        self.assertEqual(builder.best, best)
        waiting = [inner for number, (at, inner) in enumerate(plain.notes(row)) if at < start and number >= begin[0]]
        if waiting:
            waiting[0] = waiting[0][begin[1]:]
        self.assertEqual(builder.waiting, tuple(waiting))
        self.assertEqual(builder.rest, (builder.waiting, builder.held, mark, begin[1] > 0))

    def test_drawn(self):
        many = {"pages": 0, "notes": 0, "cut": 0, "waiting": 0}
        for row, style, draw in drawn(41, 260):
            builder, pages, out = Builder(style), [], []
            twin_at = draw.randint(0, len(row))
            for index, item in enumerate(row):
                if index == twin_at:
                    twin = builder.twin()
                came = builder.put(item)
                pages += came
                out += [index + 1] * len(came)
                if draw.random() < 0.4:
                    self.check_state(builder, row[:index + 1], style, plain.built(row[:index + 1], style, False))
            if twin_at == len(row):
                twin = builder.twin()
            pages += builder.finish()
            model = plain.built(row, style)
            self.assertEqual([told(page) for page in pages], model[0])
            self.assertEqual(out, model[1][:len(out)])
            later = [page for item in row[twin_at:] for page in twin.put(item)] + list(twin.finish())
            self.assertEqual(later, pages[len(pages) - len(later):])
            many["pages"] += len(pages)
            many["notes"] += len([page for page in pages if page.start == page.stop])
            many["cut"] += len([page for page in pages if page.end[1] > 0])
            self.check_whole(row, pages)
        self.assertGreater(many["pages"], 400)
        self.assertGreater(many["notes"], 20)
        self.assertGreater(many["cut"], 20)

    def check_whole(self, row, pages):
        """[14.8]: each note is set once, each solid item is on just one page."""
        solid = []
        for page in pages:
            ahead = [index for index in range(page.start, min(page.stop, len(row))) if plain.is_solid(row[index])]
            solid += ahead
        self.assertEqual(solid, [index for index, item in enumerate(row) if plain.is_solid(item)])
        ends = [(0, 0)] + [page.end for page in pages]
        self.assertEqual([page.begin for page in pages], ends[:-1])
        self.assertEqual(ends[-1], (len(plain.notes(row)), 0) if pages else (0, 0))

    def test_equal_rests(self):
        many = 0
        for row, style, draw in drawn(42, 120):
            first = Builder(style)
            for item in row:
                first.put(item)
            # Another builder that has come to the same rest by other items: pages ahead are told by a longer row.
            lead = (LINE, FORCED, ("mark", first.top_mark), rule(1), FORCED)
            second = Builder(style)
            pages = [page for item in (*lead, *row) for page in second.put(item)]
            self.assertGreaterEqual(len(pages), 2)
            if second.rest == first.rest:
                many += 1
                more = [drawn_item(draw) for _ in range(8)]
                one = [page for item in more for page in first.put(item)] + list(first.finish())
                two = [page for item in more for page in second.put(item)] + list(second.finish())
                self.assertEqual([(page.box, page.cost, page.marks) for page in one], [(page.box, page.cost, page.marks) for page in two])
        self.assertGreater(many, 20)

    def test_forced_places(self):
        builder = Builder(STYLE)
        self.assertEqual([str(page) for item in (LINE, GAP, FORCED) for page in builder.put(item)], ["page 0 to 2"])
        self.assertEqual((builder.held, builder.best, builder.start), ((FORCED,), None, 2))
        # With an excess the page goes out at the best place, and the rest is looked at anew.
        builder = Builder(STYLE)
        tight = ("penalty", 10000)
        row = (LINE, GAP, LINE, tight, LINE, ("kern", 1), tight, FORCED)
        self.assertEqual([[str(page) for page in builder.put(item)] for item in row][-1], ["page 0 to 1", "page 1 to 7"])

    def test_the_latest_of_equal_places(self):
        builder = Builder(PageStyle(100))
        for item in (rule(5), ("penalty", 0), ("penalty", 0), ("penalty", 5), ("penalty", -3), ("penalty", -3), ("penalty", 0)):
            builder.put(item)
        self.assertEqual(builder.best, (5, (0, 0), (0, 9997)))

    def test_notes(self):
        line = LINE
        small, great = note(rule(8)), note(rule(20))
        style = PageStyle(30, notes=15, waiting=5)
        builder = Builder(style)
        pages = [page for item in (line, small, GAP, line, great, GAP, line, GAP, line, FORCED) for page in builder.put(item)]
        self.assertEqual([(str(page), page.end) for page in pages], [("page 0 to 5", (1, 0)), ("page 5 to 9", (1, 0))])
        self.assertEqual([page.cost for page in pages], [(0, 5), (0, 6405)])
        self.assertEqual(builder.waiting, ((rule(20),),))
        last = builder.finish()
        self.assertEqual([(page.start, page.stop, page.begin, page.end, page.cost[0]) for page in last], [(12, 12, (1, 0), (2, 0), 0)])
        self.assertEqual(last[0].box.content[0], ("glue", Glue(0)))
        self.assertEqual(builder.waiting, ())

    def test_marks(self):
        builder = Builder(STYLE)
        row = (("mark", "a"), LINE, ("mark", "b"), FORCED, LINE, FORCED, ("mark", "c"), LINE, ("mark", "d"), FORCED)
        self.assertEqual([page.marks for item in row for page in builder.put(item)], [("", "a", "b"), ("b", "b", "b"), ("b", "c", "d")])
        self.assertEqual(builder.top_mark, "d")

    def test_finish(self):
        for row, pages in (((), 0), ((GAP, ("mark", "x"), ("penalty", 0)), 0), ((LINE,), 1), ((note(),), 1), ((note(rule(1)),), 1), ((LINE, FORCED), 1), ((GAP,), 0)):
            builder = Builder(STYLE)
            came = [page for item in row for page in builder.put(item)]
            last = builder.finish()
            self.assertIsInstance(last, tuple)
            self.assertEqual(len(came) + len(last), pages, row)
            self.assertIs(builder.is_finished, True)
            self.assertRaises(InvalidOperation, builder.finish)
            self.assertRaises(InvalidOperation, builder.put, LINE)
            self.assertRaises(InvalidItem, builder.put, None)
            self.assertIs(builder.twin().is_finished, True)
        self.assertIs(Builder(STYLE).is_finished, False)

    def test_a_note_that_never_fits(self):
        style = PageStyle(10)
        builder = Builder(style)
        huge = note(rule(50), ("penalty", 0), rule(3), ("penalty", 9), rule(40))
        builder.put(huge)
        pages = builder.finish()
        self.assertEqual([(page.end, page.cost) for page in pages], [((0, 1), (40, 10000)), ((0, 3), (0, 9)), ((1, 0), (30, 10000))])

    def test_wrong(self):
        for value in ODD_VALUES:
            self.assertRaises(InvalidPage, Builder, value)
            self.assertRaises(InvalidItem, Builder(STYLE).put, value)
        for item in (("letter", 1), ("rule", 1, None, 1), note(("mark", "x")), note(note()), ("part", (), (), ())):
            self.assertRaises(InvalidItem, Builder(STYLE).put, item)

    def test_refused_items_change_nothing(self):
        builder = Builder(STYLE)
        for item in (LINE, ("kern", MAX_LENGTH), ("kern", MAX_LENGTH), LONG_NOTE):
            builder.put(item)
        rest, best = builder.rest, builder.best
        for item in (GAP, FORCED):
            self.assertRaises(InvalidLength, builder.put, item)
            self.assertEqual((builder.rest, builder.best, builder.start, builder.cut), (rest, best, 0, (0, 0)))
        self.assertRaises(InvalidLength, builder.finish)
        self.assertEqual((builder.rest, builder.is_finished), (rest, False))
        # What is refused behind a page that has gone out changes nothing, either.
        builder = Builder(STYLE)
        row = (LINE, GAP, LINE, ("penalty", 10000), LINE, ("kern", MAX_LENGTH - 100), ("kern", MAX_LENGTH))
        for item in row:
            builder.put(item)
        rest = builder.rest
        for item in (GAP, ("penalty", 0), FORCED):
            self.assertRaises(InvalidLength, builder.put, ("penalty", 0))
            self.assertEqual((builder.rest, builder.start), (rest, 0))

    def test_great_sizes(self):
        refused = 0
        for items, style, draw in drawn_great(44, 250):
            builder, row, pages = Builder(style), (), []
            for item in items:
                try:
                    model = plain.built(row + (item,), style, False)
                except (InvalidLength, InvalidItem) as error:
                    self.assertRaises(type(error), builder.put, item)
                    refused += 1
                else:
                    row = row + (item,)
                    pages += builder.put(item)
                    self.assertEqual([told(page) for page in pages], model[0])
                    self.assertEqual((builder.best, builder.start, builder.held), (model[2], model[3], row[model[3]:]))
        self.assertGreater(refused, 30)

    def test_what_comes_behind_a_refused_item(self):
        draw = Random(45)
        for _ in range(60):
            items = [drawn_item(draw) for _ in range(draw.randint(3, 12))]
            at = draw.randint(1, len(items))
            one, other = Builder(STYLE), Builder(STYLE)
            pages = [page for item in items[:at] for page in one.put(item)]
            rest = one.rest
            # A kern that is too great is taken; what would be a place behind it is refused, and so nothing is changed by it.
            twin = one.twin()
            for item in (("kern", MAX_LENGTH), rule(1), LONG_NOTE, ("kern", MAX_LENGTH)):
                twin.put(item)
            held = twin.rest
            for item in (("penalty", 0), FORCED):
                self.assertRaises(InvalidLength, twin.put, item)
                self.assertEqual(twin.rest, held)
            self.assertEqual(one.rest, rest)
            self.assertRaises(InvalidLength, twin.finish)
            self.assertEqual(twin.rest, held)
            pages += [page for item in items[at:] for page in one.put(item)] + list(one.finish())
            self.assertEqual([told(page) for page in pages], [told(page) for item in items for page in other.put(item)] + [told(page) for page in other.finish()])

    def test_going_on_behind_refused_places(self):
        row = (LINE, ("kern", MAX_LENGTH), LONG_NOTE, ("kern", MAX_LENGTH), ("kern", -MAX_LENGTH), ("kern", -MAX_LENGTH))
        builder = Builder(STYLE)
        for item in row[:4]:
            builder.put(item)
        for item in (("penalty", 5), ("glue", Glue(3)), FORCED) * 3:
            if item[0] == "penalty":
                self.assertRaises(InvalidLength, builder.put, item)
        builder.put(("mark", "x"))
        self.assertRaises(InvalidLength, builder.put, GAP)
        self.assertEqual((len(builder.held), builder.best, builder.waiting), (5, None, ()))

    def test_what_is_refused_behind_a_page_that_goes_out(self):
        # The page up to the last place is too full, so it goes out at the first one; but behind this the sum is no length.
        row = (note(rule(3)), rule(5), ("penalty", 0), ("kern", 10 - MAX_LENGTH), rule(5), ("kern", MAX_LENGTH), ("kern", MAX_LENGTH - 50))
        builder = Builder(STYLE)
        for item in row:
            self.assertEqual(builder.put(item), ())
        told_ahead = (builder.rest, builder.best, builder.start, builder.cut)
        for item in (("penalty", 0), FORCED, ("penalty", 9)):
            self.assertRaises(InvalidLength, builder.put, item)
            self.assertEqual((builder.rest, builder.best, builder.start, builder.cut), told_ahead)
        self.assertRaises(InvalidLength, builder.finish)
        self.assertEqual((builder.rest, builder.best, builder.start, builder.cut, builder.is_finished), (*told_ahead, False))
        builder.put(("kern", 40 - MAX_LENGTH))
        self.assertEqual([(str(page), page.end) for page in builder.put(FORCED)], [("page 0 to 8", (1, 0))])

    def test_what_is_held_behind_the_end(self):
        for row in ((), (GAP,), (("mark", "x"), ("penalty", 0))):
            builder = Builder(STYLE)
            for item in row:
                builder.put(item)
            self.assertEqual((builder.finish(), builder.held, builder.start), ((), row, 0))
        builder = Builder(STYLE)
        builder.put(LINE)
        builder.finish()
        self.assertEqual((builder.held, builder.start), ((FORCED,), 2))

    def test_one_waiting_note(self):
        builder = Builder(PageStyle(30, notes=5))
        for item in (LINE, LONG_NOTE, FORCED):
            builder.put(item)
        self.assertEqual((builder.waiting, builder.cut), ((LONG_NOTE[1].content[1:],), (0, 1)))

    def test_great_notes(self):
        half = MAX_LENGTH // 2
        row = (LINE, note(rule(half)), note(rule(half)), note(rule(half)), GAP)
        style = PageStyle(MAX_LENGTH, notes=MAX_LENGTH)
        self.assertEqual(page_of(row, style, 0, 4, (0, 0), (1, 0)).cost, (0, 10000))
        for begin, end in (((0, 0), (2, 0)), ((1, 0), (3, 0))):
            self.assertRaises(InvalidLength, page_of, row, style, 0, 4, begin, end)
            self.assertRaises(InvalidLength, plain.cost, row, style, 0, 4, begin, end)
        self.assertRaises(InvalidPage, page_of, row, style, 0, 4, (0, 0), (3, 0))
        skip = PageStyle(MAX_LENGTH, skip=Glue(MAX_LENGTH))
        self.assertRaises(InvalidLength, page_of, (LINE, note(rule(3)), GAP), skip, 0, 2, (0, 0), (1, 0))
        self.assertEqual(page_of((LINE, note(rule(3)), GAP), skip, 0, 2, (0, 0), (0, 0)).cost, (0, 10000))

    def test_rests_of_notes(self):
        style = PageStyle(30, notes=5)
        builder = Builder(style)
        pages = [page for item in (LINE, LONG_NOTE, note(rule(3)), FORCED) for page in builder.put(item)]
        self.assertEqual([page.end for page in pages], [(0, 1)])
        self.assertEqual((builder.cut, builder.waiting), ((0, 1), (LONG_NOTE[1].content[1:], (rule(3),))))
        self.assertEqual(builder.rest, (builder.waiting, (FORCED,), "", True))
        self.assertEqual(builder.twin().rest, builder.rest)
        pages = [page for item in (LINE, FORCED) for page in builder.put(item)]
        self.assertEqual((pages[0].begin, pages[0].end, builder.waiting), ((0, 1), (0, 3), (LONG_NOTE[1].content[3:], (rule(3),))))
        last = builder.finish()
        self.assertEqual([page.end for page in last], [(0, 5), (1, 0), (2, 0)])
        self.assertEqual((builder.waiting, builder.rest), ((), ((), (), "", False)))
        # A builder whose first waiting note has the same items left, but is not set in part, has another rest.
        other = Builder(style)
        for item in (LINE, note(*LONG_NOTE[1].content[1:]), note(rule(3)), FORCED):
            other.put(item)
        self.assertNotEqual(other.rest, pages)

    def test_numbers_of_inner_items(self):
        crowd = ("box", column_box((("kern", 0),) * 1998), 0)
        builder = Builder(PageStyle(10 ** 6))
        for _ in range(499):
            builder.put(crowd)
        builder.put(("penalty", 0))
        self.assertEqual(builder.best[0], 499)
        builder.put(crowd)
        builder.put(("penalty", 0))
        # 500 boxes with 1998 items each, and 1000 parts: just one million.
        for _ in range(497):
            builder.put(("kern", 0))
        builder.put(("penalty", 0))
        held = builder.held
        builder.put(("kern", 0))
        self.assertRaises(InvalidItem, builder.put, ("penalty", 0))
        self.assertEqual(builder.held, held + (("kern", 0),))

    def test_number_of_items(self):
        builder = Builder(PageStyle(MAX_LENGTH))
        for index in range(1500):
            self.assertEqual(builder.put((LINE, GAP)[index % 2]), ())
        self.assertEqual((len(builder.held), builder.best[0]), (1500, 1499))
        for item in (LINE, ("mark", "x")):
            with self.assertRaises(TooMany) as caught:
                builder.put(item)
            self.assertEqual(caught.exception.limit, 1500)
        self.assertEqual(len(builder.held), 1500)
        self.assertEqual([str(page) for page in builder.finish()], ["page 0 to 1501"])

    def test_many_notes(self):
        builder = Builder(PageStyle(4000, notes=100))
        for index in range(1499):
            builder.put((LINE, note(rule(3)), GAP)[index % 3])
        builder.put(FORCED)
        self.assertGreater(builder.cut[0], 20)


class Texts(unittest.TestCase):
    def test_boxes_of_pages(self):
        page = page_of(ROW, STYLE, 0, 3, (0, 0), (0, 0))
        self.assertEqual((page.box.kind, page.box.height, page.box.depth, str(page)), ("column", 28, 2, "page 0 to 3"))
        self.assertEqual(page.box, column_box((("glue", Glue(0)), *ROW[:3]), to=28))
        self.assertEqual(row_box(()).width, 0)


if __name__ == "__main__":
    unittest.main()
