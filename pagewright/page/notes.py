"""Notes of a column, and what can be set of them on a page [14.3]."""

from pagewright.errors import InvalidLength
from pagewright.base.integers import sums_of
from pagewright.base.lengths import MAX_LENGTH
from pagewright.box.items import MAX_PENALTY, is_forced
from pagewright.box.packing import depth_of_solid, height_of_solid, packed_column, taken_by


def is_solid(item):
    """Whether an item is a box or a rule."""
    return item[0] in ("box", "rule")


def is_place(items, index):
    """Whether an index in items of a column is a place [14.1]."""
    item = items[index]
    if item[0] == "penalty":
        return item[1] < MAX_PENALTY
    return item[0] == "glue" and index > 0 and items[index - 1][0] in ("box", "rule", "mark", "note")


def penalty_of(item):
    """What it costs to end at an item: nothing for a glue or a forced penalty."""
    if item[0] != "penalty" or is_forced(item):
        return 0
    return item[1]


def size_taken(item):
    """The greatest amount by which an item can move what stands behind it, or its own line."""
    if is_solid(item):
        return abs(height_of_solid(item)) + abs(depth_of_solid(item))
    return abs(taken_by(item))


def first_solids(items):
    """The list of the indices of the first solid item from each index on, the number of items without one."""
    found = [len(items)]
    for index in range(len(items) - 1, -1, -1):
        if is_solid(items[index]):
            found.append(index)
        else:
            found.append(found[-1])
    return found[::-1]


class Note:
    """A note, with all that is to be known of its pieces. It never changes."""

    def __init__(self, box):
        items = box.content
        self.members = items
        self.frames = box.many_items
        self._taken = sums_of([taken_by(item) for item in items])
        self._sizes = sums_of([size_taken(item) for item in items])
        self._first_solids = first_solids(items)
        first = self._first_solids[0]
        # The indices of all cuts in the note, ascending; the end of its items is a cut of the next one.
        self.indices = [0] + [index for index in range(len(items)) if is_place(items, index) and index > first]
        self._are_indices = {index: True for index in self.indices}
        self._refused = {}

    def has_index(self, index):
        """Whether the index is that of a cut in the note."""
        return index in self._are_indices

    def next_index(self, index):
        """The least index of a cut above one, the number of items if there is none."""
        return min([other for other in self.indices if other > index], default=len(self.members))

    def penalty_at(self, index):
        """What it costs a page to end at a cut of the note."""
        if index == 0:
            return 0
        return penalty_of(self.members[index])

    def _first_of(self, begin, end):
        """The index of the first item of the piece between two indices."""
        solid = self._first_solids[begin]
        if solid < end:
            return solid
        return begin

    def height_of_piece(self, begin, end):
        """The height and the depth together of the piece between two indices."""
        return self._taken[end] - self._taken[self._first_of(begin, end)]

    def size_of_piece(self, begin, end):
        """At least as much as each length that is worked out for the piece, without its sign."""
        return self._sizes[end] - self._sizes[begin]

    def piece(self, begin, end):
        """The column box of the piece between two indices."""
        return packed_column(self.members[self._first_of(begin, end):end], None, None, None)

    def is_refused(self, begin, end):
        """Whether there is no column box of the piece between two indices."""
        if self.size_of_piece(begin, end) <= MAX_LENGTH:
            return False
        if (begin, end) not in self._refused:
            self._refused[(begin, end)] = self._finds_refused(begin, end)
        return self._refused[(begin, end)]

    def _finds_refused(self, begin, end):
        """As `is_refused`, by making the box."""
        try:
            self.piece(begin, end)
        except InvalidLength:
            return True
        return False


class Queue:
    """The notes of a column, in their order."""

    def __init__(self, notes):
        self.all_notes = list(notes)
        self._heights = [0]
        self._sizes = [0]
        self._refused = [0]
        for note in self.all_notes:
            self._measure(note)

    def _measure(self, note):
        """Notes the sums behind a note that is set as a whole."""
        end = len(note.members)
        self._heights.append(self._heights[-1] + note.height_of_piece(0, end))
        self._sizes.append(self._sizes[-1] + note.size_of_piece(0, end))
        self._refused.append(self._refused[-1] + int(note.is_refused(0, end)))

    def put(self, note):
        """Puts a note behind all others."""
        self.all_notes.append(note)
        self._measure(note)

    def has_cut(self, cut):
        """Whether a pair of integers of at least 0 is a cut."""
        number, index = cut
        if number >= len(self.all_notes):
            return cut == (len(self.all_notes), 0)
        return self.all_notes[number].has_index(index)

    def next_cut(self, cut):
        """The least cut behind a cut at which not all notes are set."""
        number, index = cut
        further = self.all_notes[number].next_index(index)
        if further < len(self.all_notes[number].members):
            return (number, further)
        return (number + 1, 0)

    def cuts_behind(self, cut, many):
        """The list of all cuts behind a cut at which nothing is set but of the first notes, so many ones."""
        number, index = cut
        cuts = []
        for other in range(number, many):
            cuts.extend([(other, place) for place in self.all_notes[other].indices if (other, place) > cut])
        if (many, 0) > cut:
            cuts.append((many, 0))
        return cuts

    def _partly_set(self, begin, end):
        """The triples of a note, and of the indices between which it is set, for the first and the last one in part."""
        first, index = begin
        last, stop = end
        if begin == end:
            return []
        if first == last:
            return [(self.all_notes[first], index, stop)]
        ends = [(self.all_notes[first], index, len(self.all_notes[first].members))]
        if stop > 0:
            ends.append((self.all_notes[last], 0, stop))
        return ends

    def _between(self, sums, begin, end):
        """The sum for the notes that are set as a whole between two cuts, but for the first one."""
        if begin[0] >= end[0]:
            return 0
        return sums[end[0]] - sums[begin[0] + 1]

    def height_of_pieces(self, begin, end):
        """The heights and the depths of all pieces between two cuts together."""
        ends = sum([note.height_of_piece(one, other) for note, one, other in self._partly_set(begin, end)])
        return ends + self._between(self._heights, begin, end)

    def size_of_pieces(self, begin, end):
        """At least as much as each length that is worked out for the pieces between two cuts, without its sign."""
        ends = sum([note.size_of_piece(one, other) for note, one, other in self._partly_set(begin, end)])
        return ends + self._between(self._sizes, begin, end)

    def are_refused(self, begin, end):
        """Whether a piece between two cuts is refused."""
        ends = [note.is_refused(one, other) for note, one, other in self._partly_set(begin, end)]
        return any(ends) or self._between(self._refused, begin, end) > 0

    def pieces(self, begin, end):
        """The list of the pieces between two cuts."""
        if begin == end:
            return []
        found = []
        for number in range(begin[0], end[0] + 1):
            one, other = 0, 0
            if number < len(self.all_notes):
                other = len(self.all_notes[number].members)
            if number == begin[0]:
                one = begin[1]
            if number == end[0]:
                other = end[1]
            if number < end[0] or other > 0:
                found.append(self.all_notes[number].piece(one, other))
        return found

    def penalty_at(self, cut):
        """What it costs a page to end at a cut."""
        if cut[0] == len(self.all_notes):
            return 0
        return self.all_notes[cut[0]].penalty_at(cut[1])
