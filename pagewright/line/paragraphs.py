"""Paragraphs: items broken into lines, and the columns of these."""

from pagewright.errors import InvalidItem, InvalidLength, InvalidOperation, InvalidWay, TooMany
from pagewright.base.glue import Glue
from pagewright.base.lengths import check_length
from pagewright.box.items import MAX_ITEMS, are_few, are_row_items, is_inner_frame
from pagewright.box.packing import packed_row
from pagewright.line.breaks import breaks_paper, cost_of, is_breaks_paper, is_no_way_paper, no_way_paper
from pagewright.line.measures import Measures
from pagewright.line.passes import (
    check_items, clamped, is_loose, line_items, measured_row, tried_passes, whole_of,
)
from pagewright.line.styles import check_style
from pagewright.line.words import glue_behind, items_of_word, with_parts

MOST_CHARACTERS = 20000


def word_items(style, word):
    """The items of a word [12.1]."""
    check_style(style)
    return items_of_word(style, word)


def is_plain_text(value):
    """Whether the value is a string of printable ASCII characters, of not too many."""
    if not isinstance(value, str) or len(value) > MOST_CHARACTERS:
        return False
    return all([" " <= character <= "~" for character in value])


def text_items(style, text):
    """The items of a plain text [12.1]."""
    check_style(style)
    if not is_plain_text(text):
        raise InvalidOperation("no plain text")
    words = [word for word in text.split(" ") if word != ""]
    told = {}
    for word in words:
        if word not in told:
            told[word] = items_of_word(style, word)
    items = []
    for index, word in enumerate(words):
        if index > 0:
            items.append(glue_behind(style, words[index - 1]))
        items.extend(told[word])
    if len(items) > MAX_ITEMS:
        raise TooMany(MAX_ITEMS)
    return tuple(items)


def with_hyphens(style, items):
    """The items with hyphens put in [12.2]."""
    check_style(style)
    if not are_row_items(items):
        raise InvalidItem("no items of a row")
    return with_parts(style, items)


def whole_items(style, items):
    """The whole items of a paragraph [12.3]."""
    check_style(style)
    check_items(items)
    return whole_of(style, items)


def measured(items):
    """The measured row of items."""
    check_items(items)
    return measured_row(items)


def line_box(line, width):
    """The row of the items of a line."""
    # Items in parts can be more than a row can have.
    if not are_few(line):
        raise InvalidItem("too many items in a line")
    return packed_row(line, width, None)


def boxes_or_refusal(lines, measures):
    """The pair of the tuple of the rows of lines and None, or of None and a word for the error of the first one."""
    try:
        return (tuple([line_box(line, measures.width_for(index + 1)) for index, line in enumerate(lines)]), None)
    except InvalidItem:
        return (None, "item")
    except InvalidLength:
        return (None, "length")


class Broken:
    """A broken paragraph. It never changes."""

    def __init__(self, style, items):
        check_style(style)
        tried, way = tried_passes(style, items)
        self._style = style
        self._way = way
        # All passes that were tried; the last one has told the way.
        self._tried = tried
        self._number, self._content, self._rules, _ = tried[-1]
        self._row = measured_row(self._content)
        self._cost = cost_of(self._row, self._rules, way)
        self._measures = Measures(self._row, self._rules)
        lines = []
        place = -1
        for end in way:
            lines.append(line_items(self._content, place, self._measures.start_behind(place), end))
            place = end
        self._lines = tuple([tuple([item for item in line if not is_loose(item)]) for line in lines])
        # The rows of the lines, or the error of the first one that is refused.
        self._boxes, self._refusal = boxes_or_refusal(self._lines, self._measures)
        self._loose = tuple([tuple([item for item in line if is_loose(item)]) for line in lines])

    @property
    def style(self):
        """The style."""
        return self._style

    @property
    def pass_number(self):
        """The number of the pass that has told the way."""
        return self._number

    @property
    def content(self):
        """The whole items of the pass."""
        return self._content

    @property
    def rules(self):
        """The rules of the pass."""
        return self._rules

    @property
    def way(self):
        """The way: where the lines end."""
        return self._way

    @property
    def cost(self):
        """The cost of the way."""
        return self._cost

    @property
    def lines(self):
        """The tuple of the tuples of the items of the lines."""
        return self._lines

    @property
    def loose(self):
        """The tuple of the tuples of the loose items of the lines."""
        return self._loose

    @property
    def boxes(self):
        """The tuple of the rows of the lines."""
        if self._refusal == "item":
            raise InvalidItem("too many items in a line")
        if self._refusal == "length":
            raise InvalidLength("a line with a size that is no length")
        return self._boxes

    def papers(self):
        """A paper of no way for each pass that told none, and at last a paper of breaks with the way, as a tuple."""
        found = []
        for _, content, rules, is_any_fine in self._tried:
            if len(found) + 1 < len(self._tried):
                found.append(no_way_paper(measured_row(content), rules))
            else:
                found.append(breaks_paper(measured_row(content), rules, wrong=is_any_fine))
        return tuple(found)

    def is_shown_by(self, value):
        """Whether the value is such a tuple as `papers` tells."""
        if not isinstance(value, tuple) or len(value) != len(self._tried):
            return False
        for (_, content, rules, _), paper in zip(self._tried[:-1], value):
            if not is_no_way_paper(measured_row(content), rules, paper):
                return False
        is_any_fine = self._tried[-1][3]
        return is_breaks_paper(self._row, self._rules, value[-1], wrong=is_any_fine) and value[-1][1] == self._way

    def penalty_behind(self, index):
        """The penalty behind the line with an index, which is not the last one [12.6]."""
        style = self._style
        penalty = style.between
        if index == 0:
            penalty = penalty + style.behind_first
        if index == len(self._way) - 2:
            penalty = penalty + style.ahead_last
        if self._measures.is_part_at(self._way[index]):
            penalty = penalty + style.behind_part
        return clamped(penalty)

    def __len__(self):
        return len(self._way)

    def __eq__(self, other):
        if not isinstance(other, Broken) or self._style != other._style:
            return False
        return self._content == other._content and self._way == other._way


def is_paper_of(broken, value):
    """Whether the value is a tuple of papers that show the way of a broken paragraph."""
    if not isinstance(broken, Broken):
        raise InvalidWay("no broken paragraph")
    return broken.is_shown_by(value)


def gaps_ahead(style, boxes, depth):
    """The list of the natural lengths of the glues ahead of the boxes, None ahead of the first one without a depth."""
    gaps = []
    for box in boxes:
        gap = None
        if depth is not None:
            gap = style.skip.natural - depth - box.height
            check_length(gap)
        gaps.append(gap)
        depth = box.depth
    return gaps


def glue_of_gap(style, gap):
    """The glue between two lines, for its natural length if they are not too near."""
    if gap < style.least_gap:
        return style.near_gap
    skip = style.skip
    return Glue(
        gap, stretch=skip.stretch, stretch_order=skip.stretch_order, shrink=skip.shrink, shrink_order=skip.shrink_order,
    )


def column_of(broken, depth):
    """The tuple of the items of the column of a broken paragraph [12.6]."""
    style = broken.style
    boxes = broken.boxes
    if not all([is_inner_frame(box) for box in boxes]):
        raise InvalidItem("boxes too deep in one another")
    items = []
    for index, gap in enumerate(gaps_ahead(style, boxes, depth)):
        if gap is not None:
            items.append(("glue", glue_of_gap(style, gap)))
        shift = style.shifts[min(index, len(style.shifts) - 1)]
        items.append(("box", boxes[index], shift))
        items.extend(broken.loose[index])
        if index < len(boxes) - 1 and broken.penalty_behind(index) != 0:
            items.append(("penalty", broken.penalty_behind(index)))
    return tuple(items)


def paragraph(style, items, *, depth=None):
    """The tuple of the items of the column of a paragraph."""
    broken = Broken(style, items)
    if depth is not None:
        check_length(depth)
    return column_of(broken, depth)


def text_paragraph(style, text, *, depth=None):
    """The tuple of the items of the column of a plain text."""
    return paragraph(style, text_items(style, text), depth=depth)
