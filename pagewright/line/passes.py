"""The whole items of paragraphs, and the passes by which they are broken [12.3] to [12.5]."""

from pagewright.errors import InvalidItem, InvalidRow, TooMany
from pagewright.box.items import MAX_PENALTY, are_row_items, width_in_row
from pagewright.line.breaks import FORCED, MAX_ITEMS, NEVER, breaks_paper, is_measured
from pagewright.line.words import with_parts


def check_items(items):
    """Raises `InvalidItem` unless the value is a tuple of items that a line can have."""
    if not are_row_items(items):
        raise InvalidItem("no items of a row")
    for item in items:
        if item[0] == "glue" and item[1].shrink_order > 0:
            raise InvalidItem("a glue that can shrink without end")


def whole_of(style, items):
    """The whole items for items that are known to be fine."""
    ahead = []
    if style.indent != 0:
        ahead.append(("kern", style.indent))
    if len(items) > 0 and items[-1][0] == "glue":
        items = items[:-1]
    return (*ahead, *items, ("penalty", NEVER), ("glue", style.fill), ("penalty", FORCED))


def measured_item(item):
    """The item of a measured row for an item."""
    if item[0] in ("glue", "penalty"):
        return item
    if item[0] == "part":
        widths = [sum([width_in_row(inner) for inner in told]) for told in item[1:]]
        return ("part", widths[0], widths[1], widths[2])
    return ("box", width_in_row(item))


def measured_row(items):
    """The measured row of items; `InvalidRow` if it is none."""
    row = tuple([measured_item(item) for item in items])
    if not is_measured(row):
        raise InvalidRow("no measured row")
    return row


def passes_of(style, items):
    """The list of the passes for some items: their numbers, whole items, rules, and whether any way counts."""
    check_items(items)
    plain = whole_of(style, items)
    parted = whole_of(style, with_parts(style, items))
    for content in (plain, parted):
        if len(content) > MAX_ITEMS:
            raise TooMany(MAX_ITEMS)
    for content in (plain, parted):
        measured_row(content)
    rules = style.told_rules()
    passes = []
    if style.first >= 0:
        passes.append((1, plain, rules.changed(tolerance=style.first, room=0), False))
    passes.append((2, parted, rules.changed(room=0), False))
    if style.room > 0:
        passes.append((3, parted, rules, False))
    return [*passes, (4, parted, passes[-1][2], True)]


def tried_passes(style, items):
    """The pair of the list of the passes up to the first one that tells a way, and of this way."""
    tried = []
    for one in passes_of(style, items):
        tried.append(one)
        _, content, rules, is_any_fine = one
        paper = breaks_paper(measured_row(content), rules, wrong=is_any_fine)
        if paper is not None:
            return (tried, paper[1])
    raise InvalidRow("a row without ways")


def line_items(content, place, start, end):
    """The list of the items of a line from a start to its end, with the place at which the line ahead ends."""
    items = []
    if place >= 0 and content[place][0] == "part":
        items.extend(content[place][2])
    for item in content[start:end]:
        if item[0] == "part":
            items.extend(item[3])
        else:
            items.append(item)
    if content[end][0] == "part":
        items.extend(content[end][1])
    return items


def is_loose(item):
    """Whether an item is taken out of its line."""
    return item[0] in ("mark", "note")


def clamped(penalty):
    """The penalty, or the nearest one that can be."""
    return max(-MAX_PENALTY, min(MAX_PENALTY, penalty))
