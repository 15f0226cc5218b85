"""Columns of items for pages, and the sheets that can be made of them [14.2] to [14.6]."""

from pagewright.errors import InvalidItem
from pagewright.base.glue import Glue
from pagewright.base.lengths import MAX_LENGTH, is_length
from pagewright.box.items import MAX_ITEMS, MAX_PENALTY, MOST_WITH_INNER, is_forced
from pagewright.box.packing import column_box, depth_of_column, height_of_solid, taken_by, width_in_column
from pagewright.box.setting import excess_of, ugliness_of
from pagewright.page.notes import Note, Queue, is_place, is_solid, penalty_of, size_taken

ORDERS = (0, 1, 2, 3)
COST_OF_EXCESS = 10000


def closing_glue():
    """The glue that fills the last pages."""
    return ("glue", Glue(0, stretch=1, stretch_order=3))


def closing_items():
    """What is put behind all items at the end."""
    return (closing_glue(), ("penalty", -MAX_PENALTY))


def stretch_of(item, order):
    """The stretch of an order that an item has."""
    if item[0] == "glue" and item[1].stretch_order == order:
        return item[1].stretch
    return 0


def shrink_of(item, order):
    """The shrink of an order that an item has."""
    if item[0] == "glue" and item[1].shrink_order == order:
        return item[1].shrink
    return 0


def inner_items(item):
    """How many items are in the box of an item."""
    if item[0] in ("box", "note"):
        return item[1].many_items
    return 0


class Column:
    """Items of a column, behind some notes that wait, with the sums that pages need."""

    def __init__(self, notes):
        self.members = []
        self.queue = Queue(notes)
        # How many notes stand ahead of each index.
        self._ahead = [len(notes)]
        # Sums for the items ahead of each index; the greatest width, and the first mark or forced place, likewise.
        self._taken = [0]
        self._sizes = [0]
        self._inner = [sum([note.frames for note in notes])]
        self._widest = [0]
        self._stretches = ([0], [0], [0], [0])
        self._shrinks = ([0], [0], [0], [0])
        self._solids = []
        self._forced = []

    def put(self, item, note=None):
        """Puts an item behind all others; what is known of it as a note may be told."""
        index = len(self.members)
        self.members.append(item)
        if item[0] == "note":
            if note is None:
                note = Note(item[1])
            self.queue.put(note)
        if is_solid(item):
            self._solids.append(index)
        if is_forced(item):
            self._forced.append(index)
        self._ahead.append(len(self.queue.all_notes))
        self._add(item)

    def _add(self, item):
        """Adds an item to all sums."""
        taken, size, width = 0, 0, 0
        if item[0] not in ("mark", "note", "penalty"):
            taken, size = taken_by(item), size_taken(item)
            width = abs(width_in_column(item))
        self._taken.append(self._taken[-1] + taken)
        self._sizes.append(self._sizes[-1] + size)
        self._inner.append(self._inner[-1] + inner_items(item))
        self._widest.append(max(self._widest[-1], width))
        for order in ORDERS:
            stretches, shrinks = self._stretches[order], self._shrinks[order]
            stretches.append(stretches[-1] + stretch_of(item, order))
            shrinks.append(shrinks[-1] + shrink_of(item, order))

    def cut_back(self, many):
        """Keeps the first items alone, so many ones; the others are glues and penalties."""
        del self.members[many:]
        for sums in (self._ahead, self._taken, self._sizes, self._inner, self._widest):
            del sums[many + 1:]
        for sums in (*self._stretches, *self._shrinks):
            del sums[many + 1:]
        self._forced = [index for index in self._forced if index < many]

    def many_solids(self):
        """How many solid items there are."""
        return len(self._solids)

    def has_solid_behind(self, start):
        """Whether a solid item stands at an index or behind it."""
        return len(self._solids) > 0 and self._solids[-1] >= start

    def first_solid(self, start):
        """The index of the first solid item from an index on, None without one."""
        for index in self._solids:
            if index >= start:
                return index
        return None

    def has_page(self, start, stop):
        """Whether there is a page from a start to a stop, which is an index."""
        first = self.first_solid(start)
        if first is None or first >= stop or not is_place(self.members, stop):
            return False
        return not any([first < index < stop for index in self._forced])

    def stops_behind(self, start):
        """The list of the stops of all pages from a start."""
        stops = []
        first = self.first_solid(start)
        if first is None:
            return stops
        for index in range(first + 1, len(self.members)):
            if is_place(self.members, index):
                stops.append(index)
                if is_forced(self.members[index]):
                    break
        return stops

    def notes_ahead(self, stop):
        """How many notes stand ahead of an index."""
        return self._ahead[stop]

    def taken_between(self, first, stop):
        """What the items between two indices take."""
        return self._taken[stop] - self._taken[first]

    def size_between(self, first, stop):
        """At least as much as each place of items between two indices, without its sign."""
        return self._sizes[stop] - self._sizes[first]

    def stretches_between(self, first, stop):
        """The list of the stretches of the items between two indices, by orders."""
        return [sums[stop] - sums[first] for sums in self._stretches]

    def shrinks_between(self, first, stop):
        """The list of the shrinks of the items between two indices, by orders."""
        return [sums[stop] - sums[first] for sums in self._shrinks]

    def is_small(self):
        """Whether no page can have too many items, or too wide ones."""
        parts = len(self.members) + len(self.queue.all_notes) + 2
        return parts <= MAX_ITEMS and parts + self._inner[-1] <= MOST_WITH_INNER and self._widest[-1] <= MAX_LENGTH

    def marks_between(self, start, stop):
        """The list of the texts of the marks between two indices."""
        return [item[1] for item in self.members[start:stop] if item[0] == "mark"]


class Sheet:
    """A page of a column, whatever it sets of the notes; with its stop as its first solid item it has no items."""

    def __init__(self, column, style, first, stop):
        self._column = column
        self._style = style
        self._first = first
        self._stop = stop
        self.many = column.notes_ahead(stop)
        self._top = 0
        self._penalty = 0
        self._stretches = column.stretches_between(first, stop)
        self._shrinks = column.shrinks_between(first, stop)
        if first < stop:
            self._top = max(0, style.top - height_of_solid(column.members[first]))
            self._penalty = penalty_of(column.members[stop])
        else:
            self._stretches[3] = self._stretches[3] + 1

    def _wanted_with(self, begin, end):
        """What is wanted of the glue of the page with what it sets between two cuts."""
        style = self._style
        rest = style.height - self._top - self._column.taken_between(self._first, self._stop)
        if begin == end:
            return rest
        return rest - style.skip.natural - self._column.queue.height_of_pieces(begin, end)

    def _rooms_for(self, wanted, begin, end):
        """The list of the rooms of the page, by orders, if so much is wanted."""
        skip = self._style.skip
        if wanted > 0:
            rooms, amount, order = list(self._stretches), skip.stretch, skip.stretch_order
        else:
            rooms, amount, order = list(self._shrinks), skip.shrink, skip.shrink_order
        if begin != end:
            rooms[order] = rooms[order] + amount
        return rooms

    def excess_with(self, begin, end):
        """The excess of the page, at least 0."""
        wanted = self._wanted_with(begin, end)
        return max(0, excess_of(wanted, self._rooms_for(wanted, begin, end)))

    def cost_with(self, begin, end):
        """The cost of the page [14.5]."""
        wanted = self._wanted_with(begin, end)
        if not self._is_fine(wanted, begin, end):
            self.made_box(begin, end)
        rooms = self._rooms_for(wanted, begin, end)
        excess = max(0, excess_of(wanted, rooms))
        number = COST_OF_EXCESS
        if excess == 0:
            number = ugliness_of(wanted, rooms)
        waiting = self._style.waiting * (self.many - end[0])
        return (excess, number + self._penalty + self._column.queue.penalty_at(end) + waiting)

    def _is_fine(self, wanted, begin, end):
        """Whether it is plain that the box of the page is not refused."""
        size = self._top + self._column.size_between(self._first, self._stop) + abs(self._style.skip.natural)
        size = size + self._column.queue.size_of_pieces(begin, end) + abs(wanted) + self._style.height
        return size <= MAX_LENGTH and self._column.is_small()

    def can_end(self, begin, end):
        """Whether the page can end at a cut that is not less than the one at which it begins [14.6]."""
        if begin == end:
            return True
        queue = self._column.queue
        if end > (self.many, 0) or queue.are_refused(begin, end):
            return False
        return queue.height_of_pieces(begin, end) <= self._style.notes

    def ends(self, begin):
        """The list of the cuts behind that at which the page begins at which it can end."""
        cuts = self._column.queue.cuts_behind(begin, self.many)
        return [cut for cut in cuts if self.can_end(begin, cut)]

    def fullest_cut(self, begin):
        """The cut that fills the page [14.6]."""
        for cut in reversed(list(self._column.queue.cuts_behind(begin, self.many))):
            if self.can_end(begin, cut) and self.excess_with(begin, cut) == 0:
                return cut
        return begin

    def parts(self, begin, end):
        """The tuple of the parts of the page [14.4]."""
        pieces = [("box", box, 0) for box in self._column.queue.pieces(begin, end)]
        skip = ("glue", self._style.skip)
        if self._first == self._stop:
            return (skip, *pieces, closing_glue())
        if not is_length(self._top):
            raise InvalidItem("no glue ahead of the page")
        items = [item for item in self._column.members[self._first:self._stop] if item[0] not in ("mark", "note")]
        if begin == end:
            return (("glue", Glue(self._top)), *items)
        return (("glue", Glue(self._top)), *items, skip, *pieces)

    def made_box(self, begin, end):
        """The box of the page."""
        parts = self.parts(begin, end)
        return column_box(parts, to=self._style.height - depth_of_column(parts, None))
