"""[10.1] to [10.6] and all that stands below "Stage 10: packing"."""

import unittest
from fractions import Fraction
from itertools import islice
from random import Random

from odd_values import ODD_VALUES
from pagewright.base.glue import Glue
from pagewright.base.lengths import MAX_LENGTH, is_length
from pagewright.box.items import width_of
from pagewright.box.packing import Box, badness, column_box, row_box
from pagewright.errors import InvalidItem, InvalidLength, InvalidNumber, InvalidOperation
from pagewright.font.fonts import Font

TEN = Font("ten", {"a": (10, 6, 0), "b": (12, 8, 2), "fi": (15, 7, 1), "-": (5, 3, 0)}, {})
A, B, JOIN = ("letter", TEN, "a"), ("letter", TEN, "b"), ("join", TEN, "fi", "fi")
PART = ("part", (B,), (), (A, ("kern", -3), JOIN))
ENDS = (("rule", 10, 5, 2), ("glue", Glue(10, stretch=3)), ("rule", 4, 8, None), ("glue", Glue(10, stretch=4)))


def amounts(glue, wanted):
    """The amount and the order that count for a glue if so much is wanted."""
    return (glue.stretch, glue.stretch_order) if wanted > 0 else (glue.shrink, glue.shrink_order)


def model_of_setting(items, wanted):
    """By [10.4] and [10.5]: the order, the room, the set amount, and by how much each item becomes greater."""
    told = [amounts(item[1], wanted) if item[0] == "glue" else (0, 0) for item in items]
    order = max([own for amount, own in told if amount > 0], default=0)
    room = sum([amount for amount, own in told if amount > 0 and own == order])
    size = 0 if room == 0 else abs(wanted)
    if wanted < 0 and order == 0:
        size = min(size, room)
    ends = [0]
    for index in range(len(items)):
        up_to = sum([amount for amount, own in told[:index + 1] if amount > 0 and own == order])
        ends.append(0 if room == 0 else int(Fraction(size * up_to, room) + Fraction(1, 2)))
    sign = -1 if wanted < 0 else 1
    return order, room, size, [sign * (behind - ahead) for ahead, behind in zip(ends, ends[1:])]


def model_of_ugliness(order, room, wanted, excess):
    if excess > 0:
        return 1000000
    if wanted == 0 or (room > 0 and order > 0):
        return 0
    return 10000 if room == 0 else min(10000, 100 * abs(wanted) ** 3 // room ** 3)


def drawn_glue(draw):
    return Glue(draw.randint(-3, 9), stretch=draw.choice((0, 0, 1, 5, 7)), stretch_order=draw.choice((0, 0, 0, 1, 2, 3)),
                shrink=draw.choice((0, 0, 1, 4, 6)), shrink_order=draw.choice((0, 0, 0, 1, 2, 3)))


def drawn_rows(draw, many):
    choices = (A, B, JOIN, PART, ("kern", draw.randint(-4, 4)), ("penalty", 7), ("mark", "m"), ("rule", 3, None, 4),
               ("rule", 2, 9, None), ("note", column_box(())))
    return tuple([("glue", drawn_glue(draw)) if draw.random() < 0.5 else draw.choice(choices) for _ in range(many)])


def drawn_columns(draw, many):
    box = row_box((A, B), to=draw.randint(0, 30))
    choices = (("kern", draw.randint(-4, 4)), ("penalty", 7), ("mark", "m"), ("rule", None, 4, 3), ("rule", 50, 9, -2),
               ("box", box, draw.randint(-5, 5)), ("note", column_box(())))
    return tuple([("glue", drawn_glue(draw)) if draw.random() < 0.5 else draw.choice(choices) for _ in range(many)])


class Examples(unittest.TestCase):
    def test_rows_and_columns(self):
        row = row_box(ENDS, to=44)
        self.assertEqual(
            [row.height, row.depth, row.natural, row.places, [row.size_at(index) for index in range(4)], row.excess, row.ugliness],
            [8, 2, 34, (0, 10, 24, 28), [10, 14, 4, 16], 0, 291])
        self.assertEqual(
            [row_box(ENDS, to=30).excess, row_box(ENDS, to=30).places, row_box(ENDS, to=30).ugliness, row_box(ENDS[:1], to=15).excess, str(row)],
            [4, (0, 10, 20, 24), 1000000, -5, "row of 4 items, 44u wide"])
        column = column_box((("box", row, 0), ("glue", Glue(5)), ("box", row, 3)), depth_limit=1)
        self.assertEqual(
            [column.width, column.height, column.depth, column.places, list(column.walk())[::3]],
            [47, 24, 1, (8, 10, 23), [(0, -16, ("rule", 10, 5, 2)), (27, -1, ("rule", 4, 8, 2))]])
        self.assertEqual(str(column), "column of 3 items, 24u high")
        self.assertEqual([badness(10, 7), badness(-5, 10), badness(0, 0), badness(1, 0)], [291, 12, 0, 10000])


class Badness(unittest.TestCase):
    def test_values(self):
        self.assertEqual([badness(wanted, 10) for wanted in (0, 1, 2, 3, 9, 10, 46, 47, -46, -47)],
                         [0, 0, 0, 2, 72, 100, 9733, 10000, 9733, 10000])
        self.assertEqual([badness(0, 7), badness(-1, 0), badness(MAX_LENGTH, 1), badness(MAX_LENGTH, MAX_LENGTH)], [0, 10000, 10000, 100])

    def test_wrong(self):
        for value in ODD_VALUES:
            if not is_length(value):
                self.assertRaises(InvalidLength, badness, value, 5)
            if not is_length(value) or value < 0:
                self.assertRaises(InvalidLength, badness, 5, value)


class Rows(unittest.TestCase):
    def test_sizes(self):
        box = row_box((("rule", 7, 3, 4),))
        row = row_box((A, ("box", box, 6), B, ("rule", 1, None, None), PART, ("kern", -2), ("penalty", 5), ("mark", "x")))
        self.assertEqual((row.kind, row.width, row.natural, row.height, row.depth), ("row", 10 + 7 + 12 + 1 + 22 - 2, 50, 8, 10))
        self.assertEqual(row.places, (0, 10, 17, 29, 30, 52, 50, 50))
        self.assertEqual((row.excess, row.order, row.ugliness), (0, None, 0))
        self.assertEqual((row_box(()).width, row_box(()).height, row_box(()).depth, row_box(()).places), (0, 0, 0, ()))
        low = row_box((("rule", 1, -5, -6),))
        self.assertEqual((low.height, low.depth), (0, 0))
        up = row_box((("box", box, -9),))
        self.assertEqual((up.height, up.depth), (12, 0))

    def test_each_order(self):
        glues = [Glue(10, stretch=2 + order, stretch_order=order, shrink=3 + order, shrink_order=order) for order in range(4)]
        for order in range(4):
            items = tuple([("glue", glue) for glue in glues[:order + 1]])
            natural = 10 * (order + 1)
            for more in (6, -3, 50):
                row = row_box(items, spread=more)
                self.assertEqual((row.order, row.excess, row.width), (order, 0, natural + more))
                self.assertEqual([row.size_at(index) for index in range(order + 1)], [10] * order + [10 + more])
                self.assertEqual(row.ugliness, 0 if order else {6: 2700, -3: 100, 50: 10000}[more])
            self.assertEqual(row_box(items).order, None)
        self.assertEqual((row_box((("glue", glues[0]),), spread=-4).excess, row_box((("glue", glues[0]),), spread=-4).order), (1, 0))
        self.assertEqual(row_box((("glue", glues[1]),), spread=-400).excess, 0)

    def test_no_room(self):
        for more, excess, ugliness in ((5, -5, 10000), (-5, 5, 1000000), (0, 0, 0)):
            row = row_box((A, ("glue", Glue(3))), spread=more)
            self.assertEqual((row.order, row.excess, row.ugliness, row.size_at(1)), (None, excess, ugliness, 3))

    def test_to_and_spread(self):
        items = (A, ("glue", Glue(5, stretch=1, stretch_order=1, shrink=1, shrink_order=1)))
        self.assertEqual([row_box(items, to=0).width, row_box(items, to=-7).width, row_box(items, spread=-20).width], [0, -7, -5])
        self.assertEqual(row_box(items, to=-7).size_at(1), -17)

    def test_drawn_rows(self):
        draw = Random(10)
        for _ in range(600):
            items = drawn_rows(draw, draw.randint(0, 9))
            natural = sum([width_of(item) for item in items])
            for how in ({}, {"to": draw.randint(-5, 80)}, {"spread": draw.randint(-9, 9)}):
                row = row_box(items, **how)
                size = how.get("to", natural + how.get("spread", 0))
                self.check(row, items, [width_of(item) for item in items], size, natural)
                self.assertEqual((row.width, row.natural), (size, natural))
                sizes = [row.size_at(index) for index in range(len(items))]
                self.assertEqual(row.places, tuple([sum(sizes[:index]) for index in range(len(items))]))

    def check(self, box, items, taken, size, natural):
        order, room, amount, changes = model_of_setting(items, size - natural)
        sizes = [box.size_at(index) for index in range(len(items))]
        self.assertEqual(sizes, [one + change for one, change in zip(taken, changes)])
        self.assertEqual(box.order, order if amount else None)
        self.assertEqual(box.ugliness, model_of_ugliness(order, room, size - natural, box.excess))
        self.assertEqual(sum(sizes) - (box.depth if box.kind == "column" else 0), size + box.excess)
        if box.excess == 0:
            self.assertEqual(sum(changes), size - natural)

    def test_drawn_columns(self):
        draw = Random(11)
        for _ in range(600):
            items = drawn_columns(draw, draw.randint(0, 9))
            limit = draw.choice((None, 0, 1, 5))
            taken = [self.taken(item) for item in items]
            last = items[-1] if items else ("kern", 0)
            depth = last[1].depth if last[0] == "box" else last[3] if last[0] == "rule" else 0
            depth = max(0, depth if limit is None else min(depth, limit))
            natural = sum(taken) - depth
            for how in ({}, {"to": draw.randint(-5, 80)}, {"spread": draw.randint(-9, 9)}):
                column = column_box(items, **how, depth_limit=limit)
                size = how.get("to", natural + how.get("spread", 0))
                self.check(column, items, taken, size, natural)
                self.assertEqual((column.height, column.depth, column.natural), (size, depth, natural))
                self.assertEqual(column.width, max([0] + [item[1].width + item[2] if item[0] == "box" else item[1] or 0
                                                          for item in items if item[0] in ("box", "rule")]))
                sizes = [column.size_at(index) for index in range(len(items))]
                heights = [item[1].height if item[0] == "box" else item[2] if item[0] == "rule" else 0 for item in items]
                self.assertEqual(column.places, tuple([sum(sizes[:index]) + heights[index] for index in range(len(items))]))

    def taken(self, item):
        return {"kern": lambda: item[1], "glue": lambda: item[1].natural, "rule": lambda: item[2] + item[3],
                "box": lambda: item[1].height + item[1].depth}.get(item[0], lambda: 0)()


class Columns(unittest.TestCase):
    BOX = row_box((B, A))

    def test_depths(self):
        box = ("box", self.BOX, 0)
        for items, limit, depth in (((box,), None, 2), ((box,), 0, 0), ((box,), 1, 1), ((box,), 2, 2), ((box,), 9, 2),
                                    ((box, ("kern", 0)), None, 0), ((box, ("penalty", 0)), 9, 0), ((), 5, 0),
                                    ((box, ("mark", "x")), None, 0), ((box, ("rule", 1, 2, -3)), None, 0), ((("rule", 1, 2, 7),), 4, 4)):
            column = column_box(items, depth_limit=limit)
            self.assertEqual((column.depth, column.height + column.depth), (depth, sum([column.size_at(k) for k in range(len(items))])))

    def test_widths(self):
        self.assertEqual(column_box((("box", self.BOX, 5), ("rule", None, 1, 1))).width, 27)
        self.assertEqual(column_box((("box", self.BOX, -5), ("rule", 19, 1, 1))).width, 19)
        self.assertEqual(column_box((("box", self.BOX, -50), ("rule", -3, 1, 1))).width, 0)

    def test_glue_in_columns(self):
        column = column_box((("glue", Glue(5, stretch=1, shrink=2)), ("box", self.BOX, 0), ("glue", Glue(5, stretch=3))), to=28)
        self.assertEqual((column.natural, column.excess, column.order, [column.size_at(k) for k in range(3)]), (20, 0, 0, [7, 10, 11]))
        self.assertEqual(column.places, (0, 15, 17))


class Walks(unittest.TestCase):
    def test_boxes_in_boxes(self):
        inner = row_box((A, ("kern", 2), B, ("rule", 3, None, 9)))
        column = column_box((("box", inner, 4), ("rule", None, 2, 1), ("glue", Glue(3)), ("box", inner, -1)))
        outer = row_box((("kern", 100), ("box", column, 7), JOIN, ("note", column_box((("box", inner, 0),)))))
        self.assertEqual((column.width, column.height, column.depth), (31, 17 + 3 + 3 + 8, 9))
        first, second = 8 - 31, 17 + 3 + 3 + 8 - 31
        told = [(104, 7 + first, A), (116, 7 + first, B), (128, 7 + first, ("rule", 3, 8, 9)),
                (100, 7 + 17 + 2 - 31, ("rule", 31, 2, 1)),
                (99, 7 + second, A), (111, 7 + second, B), (123, 7 + second, ("rule", 3, 8, 9)), (131, 0, JOIN)]
        self.assertEqual(list(outer.walk()), told)
        self.assertEqual(list(islice(outer.walk(), 2)), told[:2])

    def test_parts(self):
        row = row_box((A, PART, ("rule", 1, None, None)))
        self.assertEqual(list(row.walk()), [(0, 0, A), (10, 0, A), (17, 0, JOIN), (32, 0, ("rule", 1, 7, 1))])
        self.assertEqual(list(row_box((("part", (A,), (A,), ()),)).walk()), [])

    def test_set_glue(self):
        row = row_box((A, ("glue", Glue(3, stretch=1)), B), spread=8)
        self.assertEqual(list(row.walk()), [(0, 0, A), (21, 0, B)])

    def test_a_walk_is_lazy_and_fresh(self):
        row = row_box((A, B))
        walk = row.walk()
        self.assertEqual((next(walk), list(row.walk()), list(walk), list(walk)), ((0, 0, A), [(0, 0, A), (10, 0, B)], [(10, 0, B)], []))

    def test_deep_boxes(self):
        box = row_box((A,))
        for _ in range(99):
            box = row_box((("kern", 1), ("box", box, 1)))
        self.assertEqual(list(box.walk()), [(99, 99, A)])
        self.assertRaises(InvalidItem, row_box, (("box", box, 0),))


class Values(unittest.TestCase):
    def test_members(self):
        row = row_box(ENDS)
        self.assertEqual((len(row), list(row), row.content), (4, list(ENDS), ENDS))
        for item in ENDS:
            self.assertIn(item, row)
        inner = row_box((("kern", 1), ("penalty", 0), ("part", (("kern", 1),), (), ()), ("box", row, 1)))
        for item in (("kern", 1), ("part", (("kern", 1),), (), ()), ("box", row_box(ENDS), 1)):
            self.assertIn(item, inner)
        for value in (("kern", True), ("penalty", False), ("part", (("kern", True),), (), ()), ("box", row, True), ["kern", 1],
                      ("kern", 2), ("part", [("kern", 1)], (), ()), "kern", *ODD_VALUES):
            self.assertNotIn(value, inner)

    def test_equality(self):
        row = row_box(ENDS, to=44)
        self.assertTrue(row == row_box(tuple(list(ENDS)), to=44))
        self.assertFalse(row != row_box(ENDS, spread=10))
        for other in (row_box(ENDS), row_box(ENDS, to=43), row_box(ENDS[:3], to=44), column_box((("rule", 44, 8, 2),)), *ODD_VALUES):
            self.assertTrue(row != other)
            self.assertFalse(row == other)
        self.assertFalse(row_box(()) == column_box(()))
        one = row_box((("glue", Glue(1)), ("glue", Glue(2))))
        self.assertFalse(one == row_box((("glue", Glue(2)), ("glue", Glue(1)))))
        for other in ((A, A), (B, ("kern", -2))):
            self.assertFalse(row_box((A, ("kern", 0)), to=30) == row_box(other, to=30))
        self.assertFalse(row_box((("kern", 3), A, ("kern", 0)), to=30) == row_box((("kern", 3), A, ("kern", 1)), to=30))
        loose = (A, ("glue", Glue(3, stretch=1)), ("glue", Glue(3, stretch=1)))
        self.assertFalse(row_box((*loose, ("glue", Glue(0, stretch=1))), to=40) == row_box((*loose, ("glue", Glue(0, shrink=1))), to=40))
        tight = (("rule", 4, 1, 1), ("glue", Glue(3, stretch=1)), ("glue", Glue(3, stretch=1)))
        self.assertFalse(column_box((("rule", 4, 1, 1), ("kern", 3)), to=9) == column_box((("kern", 3), ("rule", 4, 1, 1)), to=9))
        self.assertTrue(row_box(tight, to=11) == row_box(tight, spread=1))

    def test_texts(self):
        self.assertEqual([str(row_box(())), str(row_box((A,))), str(column_box(())), str(row_box((), to=-3))],
                         ["row of 0 items, 0u wide", "row of 1 items, 10u wide", "column of 0 items, 0u high", "row of 0 items, -3u wide"])

    def test_indices(self):
        row = row_box(ENDS)
        for index in [value for value in ODD_VALUES if value not in (0, 1) or isinstance(value, bool)] + [4, -1]:
            with self.assertRaises(InvalidNumber) as caught:
                row.size_at(index)
            self.assertIs(caught.exception.value, index)

    def test_boxes_come_of_the_functions(self):
        self.assertIsInstance(row_box(()), Box)
        self.assertIsInstance(column_box(()), Box)


class Wrong(unittest.TestCase):
    def test_items(self):
        for make, wrong in ((row_box, ("rule", None, 1, 1)), (column_box, A), (column_box, ("rule", 1, None, 1)), (column_box, PART)):
            self.assertRaises(InvalidItem, make, (wrong,))
            self.assertRaises(InvalidItem, make, (wrong,), to="x", spread=1)
        for make in (row_box, column_box):
            for value in ODD_VALUES:
                if value != ():
                    self.assertRaises(InvalidItem, make, value)
            self.assertRaises(InvalidItem, make, [("kern", 1)])
            self.assertRaises(InvalidItem, make, (("kern", 1),) * 2001)
            self.assertEqual(len(make((("kern", 1),) * 2000)), 2000)

    def test_lengths(self):
        for value in ODD_VALUES:
            if not is_length(value) and value is not None:
                for make in (row_box, column_box):
                    self.assertRaises(InvalidLength, make, (), to=value)
                    self.assertRaises(InvalidLength, make, (), spread=value)
                    self.assertRaises(InvalidLength, make, (), to=1, spread=value)
                self.assertRaises(InvalidLength, column_box, (), to=1, spread=1, depth_limit=value)
        self.assertRaises(InvalidLength, column_box, (), depth_limit=-1)
        self.assertRaises(InvalidOperation, column_box, (), to=1, spread=0, depth_limit=0)
        self.assertRaises(InvalidOperation, row_box, (("kern", MAX_LENGTH), ("kern", 1)), to=1, spread=1)

    def test_results_that_are_no_lengths(self):
        much, one = ("kern", MAX_LENGTH), ("kern", 1)
        for make in (row_box, column_box):
            self.assertEqual(make((much, ("kern", -1), one)).natural, MAX_LENGTH)
            for items, how in (((much, one), {}), ((much, one), {"to": 5}), ((much, one, ("kern", -1), one), {"to": 7}),
                               ((much, one, one, ("kern", -2)), {}), ((one, much, one, ("kern", -2)), {}), ((much,), {"spread": 1}),
                               ((("kern", -MAX_LENGTH), ("kern", -1), one), {}), ((much,), {"to": -1}), ((("kern", -MAX_LENGTH),), {"to": 1})):
                with self.subTest(items=items, how=how):
                    self.assertRaises(InvalidLength, make, items, **how)
        self.assertEqual(row_box((much,), to=0).excess, MAX_LENGTH)
        self.assertEqual(row_box((("kern", -MAX_LENGTH),), to=0).excess, -MAX_LENGTH)
        tall = row_box((("rule", 1, MAX_LENGTH, MAX_LENGTH),))
        self.assertRaises(InvalidLength, row_box, (("box", tall, 1),))
        self.assertRaises(InvalidLength, row_box, (("box", tall, -1),))
        self.assertEqual(column_box((("box", tall, 0),)).size_at(0), 2 * MAX_LENGTH)
        self.assertRaises(InvalidLength, column_box, (("box", tall, 0),), depth_limit=5)
        self.assertRaises(InvalidLength, column_box, (("box", row_box((much,)), 1),))
        self.assertRaises(InvalidLength, column_box, (("kern", 1), ("box", tall, 0)), to=3)

    def test_set_sizes_can_be_greater(self):
        glue = ("glue", Glue(MAX_LENGTH, stretch=1, stretch_order=1))
        row = row_box((("kern", -MAX_LENGTH), glue), to=5)
        self.assertEqual((row.size_at(1), row.excess), (MAX_LENGTH + 5, 0))


if __name__ == "__main__":
    unittest.main()
