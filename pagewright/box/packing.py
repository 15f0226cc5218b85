"""Packing: rows and columns of items made into boxes."""

from pagewright.errors import InvalidItem, InvalidLength, InvalidNumber, InvalidOperation
from pagewright.base.integers import is_int
from pagewright.base.lengths import check_length, is_length
from pagewright.box.frames import Frame
from pagewright.box.items import are_column_items, are_row_items, depth_in_row, height_in_row, width_in_row
from pagewright.box.setting import Setting, badness_of


def badness(wanted, room):
    """How bad it is that so much is wanted of glue with so much room."""
    check_length(wanted)
    check_amount(room)
    return badness_of(wanted, room)


def check_amount(value):
    """Raises `InvalidLength` unless the value is a length of at least 0."""
    check_length(value)
    if value < 0:
        raise InvalidLength("a length below 0")


def check_packing(to, spread, depth_limit):
    """Raises the error of the first one that is neither None nor as it must be."""
    for value in (to, spread):
        if value is not None:
            check_length(value)
    if depth_limit is not None:
        check_amount(depth_limit)
    if to is not None and spread is not None:
        raise InvalidOperation("both a size and an amount beyond the natural size")


def packed_size(natural, to, spread):
    """The size to which a box of a natural size is packed [10.4]."""
    if to is not None:
        return to
    if spread is not None:
        return natural + spread
    return natural


def row_box(items, *, to=None, spread=None):
    """The row of some items."""
    if not are_row_items(items):
        raise InvalidItem("no items of a row")
    check_packing(to, spread, None)
    return packed_row(items, to, spread)


def packed_row(items, to, spread):
    """As `row_box`, for what is known to be fine."""
    widths = [width_in_row(item) for item in items]
    natural = sum(widths)
    size = packed_size(natural, to, spread)
    setting = Setting(items, size - natural)
    set_sizes = [width + change for width, change in zip(widths, setting.increases)]
    height = max([0] + [height_in_row(item) for item in items])
    depth = max([0] + [depth_in_row(item) for item in items])
    return Box("row", (size, height, depth), items, natural, setting, set_sizes, places_along(set_sizes))


def places_along(sizes):
    """The list of how far behind the beginning each one of things of such sizes begins."""
    places = []
    place = 0
    for size in sizes:
        places.append(place)
        place += size
    return places


def column_box(items, *, to=None, spread=None, depth_limit=None):
    """The column of some items."""
    if not are_column_items(items):
        raise InvalidItem("no items of a column")
    check_packing(to, spread, depth_limit)
    return packed_column(items, to, spread, depth_limit)


def packed_column(items, to, spread, depth_limit):
    """As `column_box`, for what is known to be fine."""
    taken = [taken_by(item) for item in items]
    depth = depth_of_column(items, depth_limit)
    natural = sum(taken) - depth
    size = packed_size(natural, to, spread)
    setting = Setting(items, size - natural)
    set_sizes = [one + change for one, change in zip(taken, setting.increases)]
    width = max([0] + [width_in_column(item) for item in items])
    places = [place + height_of_solid(item) for place, item in zip(places_along(set_sizes), items)]
    return Box("column", (width, size, depth), items, natural, setting, set_sizes, places)


def height_of_solid(item):
    """The height of a box or a rule in a column, 0 for another item."""
    if item[0] == "box":
        return item[1].height
    if item[0] == "rule":
        return item[2]
    return 0


def depth_of_solid(item):
    """The depth of a box or a rule in a column, 0 for another item."""
    if item[0] == "box":
        return item[1].depth
    if item[0] == "rule":
        return item[3]
    return 0


def taken_by(item):
    """What an item of a column takes [10.3]."""
    if item[0] == "kern":
        return item[1]
    if item[0] == "glue":
        return item[1].natural
    return height_of_solid(item) + depth_of_solid(item)


def width_in_column(item):
    """How far the right edge of an item of a column is to the right."""
    if item[0] == "box":
        return item[1].width + item[2]
    if item[0] == "rule" and item[1] is not None:
        return item[1]
    return 0


def depth_of_column(items, depth_limit):
    """The depth of a column of some items [10.3]."""
    if len(items) == 0:
        return 0
    depth = depth_of_solid(items[-1])
    if depth_limit is not None:
        depth = min(depth, depth_limit)
    return max(0, depth)


def is_same(value, item):
    """Whether the value, which may be anything, is equal to an item and an item itself: `True` is not 1."""
    if isinstance(value, tuple) and isinstance(item, tuple):
        return len(value) == len(item) and all([is_same(one, other) for one, other in zip(value, item)])
    return isinstance(value, bool) == isinstance(item, bool) and value == item


class Box(Frame):
    """A row or a column of items, with its sizes. It never changes."""

    def __init__(self, kind, sizes, content, natural, setting, set_sizes, places):
        super().__init__(content)
        for length in (*sizes, natural, setting.beyond(), *places):
            if not is_length(length):
                raise InvalidLength("no length")
        self._kind = kind
        self._sizes = sizes
        self._content = content
        self._natural = natural
        self._setting = setting
        self._set_sizes = set_sizes
        self._places = tuple(places)

    @property
    def kind(self):
        """`"row"` or `"column"`."""
        return self._kind

    @property
    def width(self):
        """The width."""
        return self._sizes[0]

    @property
    def height(self):
        """The height above the line."""
        return self._sizes[1]

    @property
    def depth(self):
        """The depth below the line."""
        return self._sizes[2]

    @property
    def content(self):
        """The tuple of the items."""
        return self._content

    @property
    def places(self):
        """The tuple of how far right, or how far below the upper edge, the items stand."""
        return self._places

    @property
    def natural(self):
        """The natural width of a row, the natural height of a column."""
        return self._natural

    @property
    def excess(self):
        """By how much the box is too full, below 0 if it lacks something."""
        return self._setting.beyond()

    @property
    def order(self):
        """The order of the glue that is set, None if none is."""
        return self._setting.glue_order

    @property
    def ugliness(self):
        """How ugly the box is."""
        return self._setting.how_ugly()

    def size_at(self, index):
        """The set width of an item of a row; what an item of a column takes, set."""
        if not is_int(index) or not 0 <= index < len(self._set_sizes):
            raise InvalidNumber(index)
        return self._set_sizes[index]

    def walk(self):
        """All letters, joins and rules, with how far right and how far below the reference place they are."""
        for item, place in zip(self._content, self._places):
            right, down = self._place_of(item, place)
            if item[0] == "box":
                box = item[1]
                for inner_right, inner_down, inner in box.walk():
                    yield (right + inner_right, down + inner_down, inner)
            else:
                for offset, black in self._black_parts(item):
                    yield (right + offset, down, black)

    def _place_of(self, item, place):
        """How far right and how far below the reference place an item is."""
        shift = 0
        if item[0] == "box":
            shift = item[2]
        if self._kind == "row":
            return (place, shift)
        return (shift, place - self._sizes[1])

    def _black_parts(self, item):
        """The list of the letters, joins and rules of an item other than a box, with how far right they are in it."""
        if item[0] in ("letter", "join"):
            return [(0, item)]
        if item[0] == "rule":
            return [(0, self._whole_rule(item))]
        if item[0] == "part":
            offsets = places_along([width_in_row(inner) for inner in item[3]])
            return [(offset, inner) for offset, inner in zip(offsets, item[3]) if inner[0] != "kern"]
        return []

    def _whole_rule(self, rule):
        """A rule with all three sizes."""
        told = [own if size is None else size for size, own in zip(rule[1:], self._sizes)]
        return ("rule", told[0], told[1], told[2])

    def __len__(self):
        return len(self._content)

    def __iter__(self):
        return iter(self._content)

    def __contains__(self, x):
        return any([is_same(x, item) for item in self._content])

    def __eq__(self, other):
        if not isinstance(other, Box) or self._kind != other._kind or self._sizes != other._sizes:
            return False
        return self._content == other._content and self._places == other._places

    def __str__(self):
        if self._kind == "row":
            return f"row of {len(self._content)} items, {self._sizes[0]}u wide"
        return f"column of {len(self._content)} items, {self._sizes[1]}u high"
