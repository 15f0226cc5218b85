"""[15.1] to [15.4] and all that stands below "Stage 15: pages at their best"."""

import unittest
from random import Random

import plain_pages as plain
from odd_values import ODD_VALUES
from test_builder import FORCED, GAP, LINE, LONG_NOTE, ROW, STYLE, drawn_item, drawn_style, note, rule, told
from pagewright.base.lengths import MAX_LENGTH
from pagewright.errors import InvalidItem, InvalidLength, InvalidPage, InvalidPaper, InvalidWay, TooMany
from pagewright.page.best import best_way, built_way, does_show, is_paper, is_way, least_pages, paper_for, pages_of, way_cost
from pagewright.page.builder import Builder, PageStyle


def drawn(seed, many, longest=7):
    """Rows with not too many ways, with their style, graph and ways."""
    draw = Random(seed)
    while many:
        row, style = tuple([drawn_item(draw) for _ in range(draw.randint(0, longest))]), drawn_style(draw)
        graph = plain.graph(row, style)
        if sum([len(pages) for pages in graph.values()]) < 150:
            ways = plain.all_ways(graph, *plain.ends_of(row))
            if len(ways) < 3000:
                many -= 1
                yield row, style, graph, ways, draw


class Examples(unittest.TestCase):
    def test_all(self):
        self.assertEqual([built_way(ROW, STYLE), way_cost(ROW, STYLE, best_way(ROW, STYLE)), least_pages(ROW, STYLE), best_way((GAP, ("mark", "x")), STYLE)],
                         [((3, (0, 0)), (8, (0, 0))), (0, 6400), 2, ()])
        self.assertEqual([way_cost(ROW, STYLE, ((8, (0, 0)),)), is_way(ROW, STYLE, ((3, (0, 0)),)), paper_for(ROW, STYLE)[(3, (0, 0))], is_paper(ROW, STYLE, {})],
                         [(13, 10000), False, (0, 0), False])


class Ways(unittest.TestCase):
    def test_drawn(self):
        with_notes = 0
        for row, style, graph, ways, draw in drawn(50, 220):
            costs = {way: plain.plus(costs) for way, costs in ways}
            least = min(costs.values())
            best = best_way(row, style)
            self.assertIn(best, costs)
            self.assertEqual((costs[best], way_cost(row, style, best)), (least, least))
            with_notes += bool(plain.notes(row))
            for way in draw.sample(list(costs), min(6, len(costs))):
                self.assertIs(is_way(row, style, way), True)
                self.assertEqual(way_cost(row, style, way), costs[way])
                self.check_pages(row, style, way)
            built = built_way(row, style)
            self.assertIn(built, costs)
            self.assertGreaterEqual(costs[built], least)
            self.assertEqual(built, tuple([(page[1], page[3]) for page in plain.built(row, style)[0]]))
            numbers = [len(way) for way, told_costs in ways if all([cost[0] == 0 for cost in told_costs])]
            self.assertEqual(least_pages(row, style), min(numbers, default=None))
            self.check_papers(row, style, graph, costs, draw)
            self.check_changed_ways(row, style, costs, draw)
        self.assertGreater(with_notes, 60)

    def check_pages(self, row, style, way):
        start, begin, mark, whole = 0, (0, 0), "", plain.closed(row)
        if way and not any([plain.is_solid(item) for item in whole]):
            start = len(whole)
        for page, (stop, end) in zip(pages_of(row, style, way), way):
            if start < stop and not any([plain.is_solid(item) for item in whole[start:]]):
                start = len(whole)
            marks = plain.marks(whole, start, stop, mark)
            self.assertEqual(told(page), (start, stop, begin, end, plain.cost(whole, style, start, stop, begin, end), plain.box(whole, style, start, stop, begin, end), marks))
            start, begin, mark = stop, end, marks[2]
        self.assertEqual(len(pages_of(row, style, way)), len(way))

    def check_changed_ways(self, row, style, costs, draw):
        way = draw.choice(list(costs))
        at = draw.randint(0, len(way))
        step = (draw.randint(-1, len(row) + 2), draw.choice(plain.cuts(row)))
        for other in (way[:at] + way[at + 1:], way[:at] + (step,) + way[at:], way[:at] + (step,) + way[at + 1:], way[::-1], way[:-1]):
            self.assertIs(is_way(row, style, other), other in costs)
            if other not in costs:
                self.assertRaises(InvalidWay, way_cost, row, style, other)
                self.assertRaises(InvalidWay, pages_of, row, style, other)
                self.assertRaises(InvalidWay, does_show, row, style, paper_for(row, style), other)

    def check_papers(self, row, style, graph, costs, draw):
        paper, least = paper_for(row, style), min(costs.values())
        self.assertEqual(list(paper), sorted(graph))
        self.assertIs(is_paper(row, style, paper), True)
        self.assertIs(plain_paper(graph, plain.ends_of(row)[1], paper), True)
        for way in draw.sample(list(costs), min(6, len(costs))):
            self.assertIs(does_show(row, style, paper, way), costs[way] == least)
        node = draw.choice(list(paper))
        for more in ((0, 1), (0, -1), (1, 0), (-1, 0)):
            other = {**paper, node: plain.plus((paper[node], more))}
            fine = plain_paper(graph, plain.ends_of(row)[1], other)
            self.assertIs(is_paper(row, style, other), fine)
            for way in draw.sample(list(costs), min(3, len(costs))):
                if fine:
                    self.assertIs(does_show(row, style, other, way), plain_show(graph, plain.ends_of(row)[0], other, way))
                else:
                    self.assertRaises(InvalidPaper, does_show, row, style, other, way)
        fewer = {key: worth for key, worth in paper.items() if key != node}
        for other in (fewer, {**paper, (len(row) + 9, (0, 0)): (0, 0)}, {**paper, "x": (0, 0)}, {**paper, node: list(paper[node])}, {**paper, node: (0,)},
                      {**paper, node: (False, 0)}, {**paper, node: None}, {**paper, node: (10 ** 60, 0)}, list(paper), tuple(paper.items())):
            if other != {} or paper != {}:
                self.assertIs(is_paper(row, style, other), False)
                self.assertRaises(InvalidPaper, does_show, row, style, other, None)


def plain_paper(graph, last, paper):
    if set(paper) != set(graph) or paper[last] != (0, 0):
        return False
    return all([plain.plus((cost, paper[target])) >= paper[node] for node, pages in graph.items() for target, _, cost in pages])


def plain_show(graph, node, paper, way):
    for step in way:
        target, cost = [(target, cost) for target, other, cost in graph[node] if other == step][0]
        if plain.plus((cost, paper[target])) != paper[node]:
            return False
        node = target
    return True


class Papers(unittest.TestCase):
    def test_booleans_are_no_integers(self):
        row = (LINE, ("penalty", 0), LINE)
        paper = paper_for(row, STYLE)
        self.assertIs(is_paper(row, STYLE, paper), True)
        self.assertIn((1, (0, 0)), paper)
        for old, new in (((1, (0, 0)), (True, (0, 0))), ((0, (0, 0)), (0, (False, 0))), ((0, (0, 0)), (False, (0, 0)))):
            other = {new if node == old else node: worth for node, worth in paper.items()}
            self.assertEqual(other, paper)
            self.assertIs(is_paper(row, STYLE, other), False)
        self.assertIs(is_way(row, STYLE, ((1, (0, 0)), (4, (0, 0)))), True)
        for way in (((True, (0, 0)), (4, (0, 0))), ((1, (False, 0)), (4, (0, 0))), [(1, (0, 0)), (4, (0, 0))], ([1, (0, 0)], (4, (0, 0))), ((1, [0, 0]), (4, (0, 0)))):
            self.assertIs(is_way(row, STYLE, way), False)

    def test_order_of_errors(self):
        paper, way = paper_for(ROW, STYLE), best_way(ROW, STYLE)
        for value in ODD_VALUES:
            self.assertIs(is_paper(ROW, STYLE, value), False)
            self.assertRaises(InvalidPaper, does_show, ROW, STYLE, value, None)
            self.assertIs(is_way(ROW, STYLE, value), False)
            self.assertRaises(InvalidWay, does_show, ROW, STYLE, paper, value)
            self.assertRaises(InvalidWay, way_cost, ROW, STYLE, value)
            self.assertRaises(InvalidWay, pages_of, ROW, STYLE, value)
        self.assertIs(does_show(ROW, STYLE, paper, way), True)


class NotClosed(unittest.TestCase):
    def test_rows(self):
        for row in ((), (GAP,), (("mark", "x"), ("kern", 5), FORCED)):
            self.assertEqual((best_way(row, STYLE), built_way(row, STYLE), least_pages(row, STYLE), paper_for(row, STYLE), way_cost(row, STYLE, ()), pages_of(row, STYLE, ())),
                             ((), (), 0, {(0, (0, 0)): (0, 0)}, (0, 0), ()))
            self.assertIs(is_way(row, STYLE, ()), True)
            self.assertIs(is_way(row, STYLE, ((1, (0, 0)),)), False)
            self.assertIs(does_show(row, STYLE, {(0, (0, 0)): (0, 0)}, ()), True)
            self.assertIs(is_paper(row, STYLE, {(0, (0, 0)): (0, 1)}), False)

    def test_notes_alone(self):
        for row, number in (((note(),), 1), ((LONG_NOTE,), 1), ((note(rule(20)), note(rule(20))), 2), ((note(rule(31)),), None)):
            way = best_way(row, STYLE)
            self.assertEqual(least_pages(row, STYLE), number)
            self.assertTrue(all([stop == len(row) + 2 for stop, _ in way]))
            self.assertIs(is_way(row, STYLE, ()), False)

    def test_no_way_without_excess(self):
        self.assertIsNone(least_pages((rule(31),), STYLE))
        self.assertEqual(least_pages((rule(30),), STYLE), 1)


class Limits(unittest.TestCase):
    ALL = (best_way, built_way, paper_for, least_pages)

    def test_wrong(self):
        more = (("mark", "x"),) * 199
        for value in (*ODD_VALUES, more, (("letter", 1),), (note(("mark", "x")),)):
            if value != ():
                for ask in self.ALL:
                    self.assertRaises(InvalidItem, ask, value, None)
                for ask in (is_way, way_cost, pages_of, is_paper):
                    self.assertRaises(InvalidItem, ask, value, None, None)
                self.assertRaises(InvalidItem, does_show, value, None, None, None)
        for value in ODD_VALUES:
            for ask in self.ALL:
                self.assertRaises(InvalidPage, ask, ROW, value)
            for ask in (is_way, way_cost, pages_of, is_paper):
                self.assertRaises(InvalidPage, ask, ROW, value, None)
            self.assertRaises(InvalidPage, does_show, ROW, value, None, None)

    def test_198_items(self):
        row = (LINE, GAP) * 99
        style = PageStyle(120)
        best = best_way(row, style)
        self.assertIs(is_way(row, style, best), True)
        self.assertIs(does_show(row, style, paper_for(row, style), best), True)
        self.assertLessEqual(way_cost(row, style, best), way_cost(row, style, built_way(row, style)))
        self.assertRaises(InvalidItem, best_way, row + (GAP,), style)

    def row_of(self, lines, *segments):
        """Segments of so many lines, which no page leaves, ahead of six notes and so many lines, with a place behind each."""
        row = ()
        for many in segments:
            row += (LINE, ("penalty", 0)) * (many - 1) + (LINE, FORCED)
        return row + (note(rule(1)),) * 6 + (LINE, ("penalty", 0)) * lines

    def many_pages(self, lines, *segments):
        """The number of pages between nodes of such a row: each segment of k lines has k * (k + 1) / 2."""
        total = sum([many * (many + 1) // 2 for many in segments])
        reached = {(0, 0)}
        for start in range(lines):
            for cut in [cut for cut in range(7) if (start, cut) in reached]:
                steps = [(min(stop, lines), end) for stop in range(start + 1, lines + 2) for end in range(cut, 7)]
                total += len(steps)
                reached.update(steps)
        # Pages without items end at each further note.
        return total + sum([6 - cut for cut in range(6) if (lines, cut) in reached])

    def test_20000_pages(self):
        style = PageStyle(50)
        for told_row in ((2,), (3,), (2, 3, 1)):
            graph = plain.graph(self.row_of(*told_row), style)
            self.assertEqual(sum([len(pages) for pages in graph.values()]), self.many_pages(*told_row))
        self.assertEqual((self.many_pages(37, 7, 7, 1), self.many_pages(37, 10, 2)), (20000, 20001))
        row = self.row_of(37, 7, 7, 1)
        self.assertIs(does_show(row, style, paper_for(row, style), best_way(row, style)), True)
        row = self.row_of(37, 10, 2)
        for ask in (best_way, paper_for):
            with self.assertRaises(TooMany) as caught:
                ask(row, style)
            self.assertEqual(caught.exception.limit, 20000)
        self.assertIs(is_way(row, style, built_way(row, style)), True)
        self.assertGreater(least_pages(row, style), 0)
        self.assertIs(is_paper(row, style, {}), False)

    def test_no_lengths(self):
        row = (LINE, ("kern", MAX_LENGTH), ("kern", MAX_LENGTH))
        for ask in self.ALL:
            self.assertRaises(InvalidLength, ask, row, STYLE)
        self.assertIs(is_way(row, STYLE, ((4, (0, 0)),)), True)
        self.assertRaises(InvalidLength, way_cost, row, STYLE, ((4, (0, 0)),))
        self.assertRaises(InvalidLength, pages_of, row, STYLE, ((4, (0, 0)),))
        self.assertRaises(InvalidLength, is_paper, row, STYLE, {(0, (0, 0)): (0, 0), (5, (0, 0)): (0, 0)})

    def test_builders_tell_the_same(self):
        builder = Builder(STYLE)
        pages = [page for item in ROW for page in builder.put(item)] + list(builder.finish())
        self.assertEqual(pages_of(ROW, STYLE, built_way(ROW, STYLE)), tuple(pages))


if __name__ == "__main__":
    unittest.main()
