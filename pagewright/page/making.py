"""How pages are made of items that come one after the other [14.7]."""

from pagewright.box.items import is_forced
from pagewright.page.sheets import Column, Sheet, closing_items


def marks_of(texts, top_mark):
    """The three marks of a page with marks of some texts, behind a page with a bottom mark."""
    if len(texts) == 0:
        return (top_mark, top_mark, top_mark)
    return (top_mark, texts[0], texts[-1])


def made_page(column, style, places, cuts, top_mark):
    """What is told of the page of a column with a start and a stop, between two cuts: its cost, box and marks, too.

    Start and stop are the number of the items for a page without items.
    """
    start, stop = places
    begin, end = cuts
    first = stop
    if start < stop:
        first = column.first_solid(start)
    sheet = Sheet(column, style, first, stop)
    cost = sheet.cost_with(begin, end)
    return (places, cuts, cost, sheet.made_box(begin, end), marks_of(column.marks_between(start, stop), top_mark))


class Making:
    """What is held of items that were put, and where the next page begins."""

    def __init__(self, style):
        self._style = style
        # The items that are held, and the notes that are not wholly set: places and cuts in this column are less by
        # the two numbers below than those that are told.
        self.column = Column([])
        self.first_item = 0
        self.first_note = 0
        # The index of the cut at which the next page begins, in the first one of these notes.
        self.index_of_cut = 0
        # For each note that waits behind the last page, the tuple of its items that are not set.
        self.unset = ()
        self.mark_ahead = ""
        # The best place, with its cut and its cost, or None.
        self._best = None

    def mark(self):
        """All that is told to `go_back`."""
        return (len(self.column.members), self.column, self._beginning(), self.unset, self.mark_ahead, self._best)

    def _beginning(self):
        """The numbers that tell where the next page begins."""
        return (self.first_item, self.first_note, self.index_of_cut)

    def go_back(self, mark):
        """Makes all as it was when a mark was made, if a glue or a penalty that was put behind it is refused."""
        many, self.column, numbers, self.unset, self.mark_ahead, self._best = mark
        self.first_item, self.first_note, self.index_of_cut = numbers
        self.column.cut_back(many)

    def copied(self):
        """An independent copy."""
        other = Making(self._style)
        many = self.column.notes_ahead(0)
        other.column = Column(self.column.queue.all_notes[:many])
        for item in list(self.column.members):
            other.column.put(item)
        other.first_item, other.first_note, other.index_of_cut = self._beginning()
        other.unset = self.unset
        other.mark_ahead = self.mark_ahead
        other._best = self._best
        return other

    def best_place(self):
        """The triple of the best place, the cut and the cost there, or None."""
        if self._best is None:
            return None
        stop, (number, index), cost = self._best
        return (self.first_item + stop, (self.first_note + number, index), cost)

    def put_all(self, items):
        """Puts items, one after the other, and returns the list of what is told of the pages that go out."""
        pages = []
        pending = list(items)[::-1]
        while len(pending) > 0:
            self.column.put(pending.pop())
            stop = self._stop_of_page()
            if stop is not None:
                rest = self.column.members[stop:]
                pages.append(self._sent_out((0, stop), self._best[1]))
                # What is left is looked at anew.
                pending.extend(rest[::-1])
        return pages

    def _stop_of_page(self):
        """Where the page stops that goes out now that the last item is put; None if none goes out."""
        column = self.column
        stop = len(column.members) - 1
        if not column.has_page(0, stop):
            return None
        sheet = Sheet(column, self._style, column.first_solid(0), stop)
        begin = (0, self.index_of_cut)
        end = sheet.fullest_cut(begin)
        cost = sheet.cost_with(begin, end)
        goes_out = is_forced(column.members[stop]) and cost[0] == 0
        if self._best is None or cost <= self._best[2] or goes_out:
            self._best = (stop, end, cost)
        if goes_out or cost[0] > 0:
            return self._best[0]
        return None

    def _sent_out(self, places, end):
        """What is told of a page that ends at a cut; behind it nothing is held but the notes that wait."""
        begin = (0, self.index_of_cut)
        _, stop = places
        page = made_page(self.column, self._style, places, (begin, end), self.mark_ahead)
        told = self._moved(page)
        number, index = end
        waiting = self.column.queue.all_notes[number:self.column.notes_ahead(stop)]
        self.unset = tuple([note.members for note in waiting])
        if len(waiting) > 0:
            self.unset = (waiting[0].members[index:], *self.unset[1:])
        self.column = Column(waiting)
        self.first_item += stop
        self.first_note += number
        self.index_of_cut = index
        self.mark_ahead = page[4][2]
        self._best = None
        return told

    def _moved(self, page):
        """A page with the indices and cuts that are told of it."""
        places, cuts, cost, box, marks = page
        places = tuple([index + self.first_item for index in places])
        cuts = tuple([(number + self.first_note, index) for number, index in cuts])
        return (places, cuts, cost, box, marks)

    def finish_all(self):
        """Ends the items, and returns the list of what is told of the last pages."""
        pages = []
        if self.column.has_solid_behind(0) or len(self.column.queue.all_notes) > 0:
            pages.extend(self.put_all(closing_items()))
            while len(self.column.queue.all_notes) > 0:
                pages.append(self._page_of_notes())
        return pages

    def _page_of_notes(self):
        """What is told of a page without items, which goes out."""
        column = self.column
        stop = len(column.members)
        begin = (0, self.index_of_cut)
        end = Sheet(column, self._style, stop, stop).fullest_cut(begin)
        if end == begin:
            end = column.queue.next_cut(begin)
        return self._sent_out((stop, stop), end)
