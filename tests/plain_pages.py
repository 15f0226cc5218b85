"""A plain model of stages 14 and 15, straight from the points: pages are made anew whenever they are looked at."""

from pagewright.base.glue import Glue
from pagewright.base.lengths import MAX_LENGTH
from pagewright.box.packing import column_box
from pagewright.errors import InvalidItem, InvalidLength

CLOSING = (("glue", Glue(0, stretch=1, stretch_order=3)), ("penalty", -10000))
FORCED = ("penalty", -10000)


def is_solid(item):
    return item[0] in ("box", "rule")


def places(items):
    found = []
    for index, item in enumerate(items):
        if item[0] == "penalty" and item[1] < 10000:
            found.append(index)
        if item[0] == "glue" and index > 0 and items[index - 1][0] in ("box", "rule", "mark", "note"):
            found.append(index)
    return tuple(found)


def notes(items):
    """The pairs of the index of each note and the items of its box."""
    return [(index, item[1].content) for index, item in enumerate(items) if item[0] == "note"]


def page_items(items, start, stop):
    """The items of a page, None if there is no such page [14.2]."""
    if not 0 <= start < stop or stop not in places(items):
        return None
    solid = [index for index in range(start, stop) if is_solid(items[index])]
    if not solid or FORCED in items[solid[0]:stop]:
        return None
    return tuple([item for index, item in enumerate(items[start:stop], start) if index >= solid[0] or item[0] not in ("glue", "kern", "penalty")])


def cuts(items):
    found = []
    for number, (_, inner) in enumerate(notes(items)):
        found.append((number, 0))
        found += [(number, index) for index in places(inner) if any([is_solid(item) for item in inner[:index]])]
    return found + [(len(notes(items)), 0)]


def slices(items, begin, end):
    """The pairs of the number of a note of which something is set between two cuts, and of the items."""
    found = []
    for number, (_, inner) in enumerate(notes(items)):
        if begin[0] <= number <= end[0] and begin < end:
            low = begin[1] if number == begin[0] else 0
            high = end[1] if number == end[0] else len(inner)
            if number < end[0] or high > low:
                found.append((number, inner[low:high]))
    return found


def piece(inner):
    if any([is_solid(item) for item in inner]):
        while not is_solid(inner[0]):
            inner = inner[1:]
    return column_box(inner)


def pieces(items, begin, end):
    return [piece(inner) for _, inner in slices(items, begin, end)]


def can_end(items, style, stop, begin, end):
    if end < begin or end not in cuts(items) or any([notes(items)[number][0] >= stop for number, _ in slices(items, begin, end)]):
        return False
    try:
        boxes = pieces(items, begin, end)
    except InvalidLength:
        return False
    return not boxes or sum([box.height + box.depth for box in boxes]) <= style.notes


def parts(items, style, start, stop, begin, end):
    boxes = tuple([("box", box, 0) for box in pieces(items, begin, end)])
    if start == stop == len(items):
        return (("glue", style.skip), *boxes, CLOSING[0])
    own = [item for item in page_items(items, start, stop)]
    first = [item for item in own if is_solid(item)][0]
    height = first[1].height if first[0] == "box" else first[2]
    if style.top - height > MAX_LENGTH:
        raise InvalidItem("no glue")
    told = (("glue", Glue(max(0, style.top - height))), *[item for item in own if item[0] not in ("mark", "note")])
    return (*told, ("glue", style.skip), *boxes) if boxes else told


def box(items, style, start, stop, begin, end):
    told = parts(items, style, start, stop, begin, end)
    last = told[-1]
    depth = last[1].depth if last[0] == "box" else last[3] if last[0] == "rule" else 0
    return column_box(told, to=style.height - max(0, depth))


def cost(items, style, start, stop, begin, end):
    told = box(items, style, start, stop, begin, end)
    excess = max(0, told.excess)
    number = 10000 if excess else told.ugliness
    if stop < len(items) and items[stop][0] == "penalty" and items[stop] != FORCED:
        number += items[stop][1]
    if end[1] > 0:
        item = notes(items)[end[0]][1][end[1]]
        if item[0] == "penalty" and item != FORCED:
            number += item[1]
    waiting = [at for number_of, (at, _) in enumerate(notes(items)) if at < stop and number_of >= end[0]]
    return excess, number + style.waiting * len(waiting)


def filled(items, style, start, stop, begin):
    fine = [end for end in cuts(items) if can_end(items, style, stop, begin, end) and cost(items, style, start, stop, begin, end)[0] == 0]
    return max(fine, default=begin)


def marks(items, start, stop, ahead):
    texts = [item[1] for item in items[start:stop] if item[0] == "mark"]
    return (ahead, texts[0], texts[-1]) if texts else (ahead,) * 3


def built(items, style, is_finished=True):
    """The pages of a builder, as (start, stop, begin, end, cost, box, marks), with the number of items put when each one goes out."""
    row, pages, out = (), [], []
    start, begin, mark = 0, (0, 0), ""

    def send(stop, end):
        nonlocal start, begin, mark
        told = marks(row, start, stop, mark)
        pages.append((start, stop, begin, end, cost(row, style, start, stop, begin, end), box(row, style, start, stop, begin, end), told))
        out.append(len(row))
        start, begin, mark = stop, end, told[2]

    def look(first):
        """Looks at all places from an index on, as if the items came one after the other."""
        nonlocal row
        whole, best = row, None
        at = first
        while at < len(whole):
            row = whole[:at + 1]
            if page_items(row, start, at) is not None:
                end = filled(row, style, start, at, begin)
                told = cost(row, style, start, at, begin, end)
                if best is None or told <= best[2]:
                    best = (at, end, told)
                row = whole
                if items_forced(whole[at]) and told[0] == 0:
                    send(at, end)
                    at, best = start, None
                elif told[0] > 0:
                    send(best[0], best[1])
                    at, best = start, None
            at += 1
        row = whole
        return best

    best = None
    for item in items:
        # All that is held is looked at again: pages that have gone out stay so.
        row = row + (item,)
        best = look(start)
    if is_finished and (any([is_solid(item) for item in row[start:]]) or begin != (len(notes(row)), 0)):
        for item in CLOSING:
            row = row + (item,)
            look(start)
        while begin != (len(notes(row)), 0):
            start = len(row)
            end = filled(row, style, start, start, begin)
            send(start, end if end > begin else min([cut for cut in cuts(row) if cut > begin]))
    return pages, out, best, start, begin, mark


def items_forced(item):
    return item == FORCED


def closed(items):
    return items + CLOSING if any([is_solid(item) or item[0] == "note" for item in items]) else items


def steps(items, style, node):
    """The pages from a node of a closed row, as (target, (stop, end))."""
    index, begin = node
    found = []
    if index == len(items):
        least = min([cut for cut in cuts(items) if cut > begin])
        return [((index, cut), (index, cut)) for cut in cuts(items) if cut > begin and (cut == least or can_end(items, style, index, begin, cut))]
    for stop in places(items):
        if page_items(items, index, stop) is not None:
            target = stop if any([is_solid(item) for item in items[stop:]]) else len(items)
            found += [((target, cut), (stop, cut)) for cut in cuts(items) if can_end(items, style, stop, begin, cut)]
    return found


def ends_of(items):
    """The first and the last node of a row, closed or not."""
    if closed(items) == items:
        return (0, (0, 0)), (0, (0, 0))
    row = closed(items)
    first = (0, (0, 0)) if any([is_solid(item) for item in row]) else (len(row), (0, 0))
    return first, (len(row), (len(notes(row)), 0))


def graph(items, style):
    """The dict from nodes to lists of (target, step, cost)."""
    first, last = ends_of(items)
    row = closed(items)
    found, waiting = {last: []}, [first]
    while waiting:
        node = waiting.pop()
        if node not in found:
            found[node] = [(target, step, cost(row, style, node[0], step[0], node[1], step[1])) for target, step in steps(row, style, node)]
            waiting += [target for target, _, _ in found[node]]
    return found


def all_ways(found, first, last):
    """All ways, as pairs of the way and the tuple of its costs."""
    if first == last:
        return [((), ())]
    return [((step, *way), (told, *costs)) for target, step, told in found[first] for way, costs in all_ways(found, target, last)]


def plus(costs):
    return sum([one[0] for one in costs]), sum([one[1] for one in costs])
