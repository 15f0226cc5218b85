"""Pages as their items come."""

from pagewright.errors import (
    InvalidItem, InvalidLength, InvalidNumber, InvalidOperation, InvalidPage, TooMany,
)
from pagewright.base.glue import Glue
from pagewright.base.integers import is_between, is_int
from pagewright.base.lengths import is_length
from pagewright.box.items import are_column_items, is_mark
from pagewright.page.making import Making, made_page
from pagewright.page.notes import is_place
from pagewright.page.sheets import Column, Sheet

FORCED = -10000
BARRED = 10000
MAX_HELD = 1500

MOST_WAITING = 10000


def is_column_row(value):
    """Whether the value is a column row [14.1]."""
    if not are_column_items(value):
        return False
    inner = [other for item in value if item[0] == "note" for other in item[1].content]
    return not any([other[0] in ("mark", "note") for other in inner])


def check_items(items, most):
    """Raises `InvalidItem` unless the value is a column row of at most so many items."""
    if not is_column_row(items) or len(items) > most:
        raise InvalidItem("no column row")


def check_page_style(style):
    """Raises `InvalidPage` unless the value is a style of pages."""
    if not isinstance(style, PageStyle):
        raise InvalidPage("no style of pages")


def is_size(value):
    """Whether the value is a length of at least 0."""
    return is_length(value) and value >= 0


class PageStyle:
    """What pages are to be like. It never changes."""

    def __init__(self, height, *, top=0, skip=None, notes=None, waiting=0):
        if skip is None:
            skip = Glue(0)
        if notes is None:
            notes = height
        if not is_size(height) or height == 0 or not is_size(top) or not isinstance(skip, Glue) or not is_size(notes):
            raise InvalidPage("no style of pages")
        if not is_between(waiting, 0, MOST_WAITING):
            raise InvalidPage("no cost of a waiting note")
        self._told = (height, top, skip, notes, waiting)

    @property
    def height(self):
        """The height of a page, with its depth."""
        return self._told[0]

    @property
    def top(self):
        """How far the line of the first solid item is below the upper edge, at least."""
        return self._told[1]

    @property
    def skip(self):
        """The glue ahead of the notes."""
        return self._told[2]

    @property
    def notes(self):
        """The most that the notes of a page can take."""
        return self._told[3]

    @property
    def waiting(self):
        """What each note costs that waits."""
        return self._told[4]

    def __eq__(self, other):
        return isinstance(other, PageStyle) and self._told == other._told


class Page:
    """A page. It never changes."""

    def __init__(self, places, cuts, cost, box, marks):
        self._places = places
        self._cuts = cuts
        self._cost = cost
        self._box = box
        self._marks = marks

    @property
    def start(self):
        """The index at which the page starts."""
        return self._places[0]

    @property
    def stop(self):
        """The index at which the page stops."""
        return self._places[1]

    @property
    def begin(self):
        """The cut at which the page begins."""
        return self._cuts[0]

    @property
    def end(self):
        """The cut at which the page ends."""
        return self._cuts[1]

    @property
    def cost(self):
        """The cost."""
        return self._cost

    @property
    def box(self):
        """The box."""
        return self._box

    @property
    def marks(self):
        """The texts of the top, the first and the bottom mark."""
        return self._marks

    def moved(self, items, notes):
        """The page with greater indices of items and notes."""
        if not is_int(items) or self._places[0] + items < 0:
            raise InvalidNumber(items)
        if not is_int(notes) or self._cuts[0][0] + notes < 0:
            raise InvalidNumber(notes)
        places = (self._places[0] + items, self._places[1] + items)
        cuts = tuple([(number + notes, index) for number, index in self._cuts])
        return Page(places, cuts, self._cost, self._box, self._marks)

    def __eq__(self, other):
        if not isinstance(other, Page) or self._places != other._places or self._cuts != other._cuts:
            return False
        return self._cost == other._cost and self._box == other._box and self._marks == other._marks

    def __str__(self):
        return f"page {self._places[0]} to {self._places[1]}"


def told_pages(told):
    """The tuple of the pages for what is told of them."""
    return tuple([Page(*one) for one in told])


def column_for(items):
    """The column of some items."""
    column = Column([])
    for item in items:
        column.put(item)
    return column


def places_of(items):
    """The ascending tuple of all places of a column row."""
    check_items(items, MAX_HELD)
    return tuple([index for index in range(len(items)) if is_place(items, index)])


def is_index_pair(value):
    """Whether the value is a pair of integers of at least 0."""
    if not isinstance(value, tuple) or len(value) != 2:
        return False
    return all([is_int(number) and number >= 0 for number in value])


def is_beginning(column, stop, cut):
    """Whether the value is a cut of which all notes, that in which it is among them, stand ahead of a stop."""
    if not is_index_pair(cut) or not column.queue.has_cut(cut):
        return False
    return cut[0] + int(cut[1] > 0) <= column.notes_ahead(stop)


def check_page(column, start, stop, begin):
    """Raises `InvalidPage` unless a page has this start and stop, and begins at a cut that it can begin at."""
    if not is_int(start) or not is_int(stop) or not 0 <= start < stop < len(column.members):
        raise InvalidPage("no start and stop")
    if not column.has_page(start, stop) or not is_beginning(column, stop, begin):
        raise InvalidPage("no page")


def page_of(items, style, start, stop, begin, end, *, top_mark=""):
    """The page of a column row with this start and stop, and between these cuts."""
    check_items(items, MAX_HELD)
    check_page_style(style)
    column = column_for(items)
    check_page(column, start, stop, begin)
    if not is_index_pair(end) or not column.queue.has_cut(end) or end < begin:
        raise InvalidPage("no cut at which the page ends")
    if not Sheet(column, style, column.first_solid(start), stop).can_end(begin, end):
        raise InvalidPage("a cut at which the page cannot end")
    if not is_mark(("mark", top_mark)):
        raise InvalidItem("no text of a mark")
    told = made_page(column, style, (start, stop), (begin, end), top_mark)
    return Page(*told)


def filled(items, style, start, stop, begin):
    """The cut that fills the page of a column row with this start and stop, from a cut on."""
    check_items(items, MAX_HELD)
    check_page_style(style)
    column = column_for(items)
    check_page(column, start, stop, begin)
    sheet = Sheet(column, style, column.first_solid(start), stop)
    cut = sheet.fullest_cut(begin)
    # A page whose box is refused has no cut that fills it.
    sheet.cost_with(begin, cut)
    return cut


class Builder:
    """Makes pages of items, which are put one after the other."""

    def __init__(self, style):
        check_page_style(style)
        self._style = style
        self._making = Making(style)
        self._is_finished = False

    def put(self, item):
        """Puts an item behind all others, and returns the tuple of the pages that go out."""
        if not is_column_row((item,)):
            raise InvalidItem("no item of a column row")
        self._check_unfinished()
        if len(self._making.column.members) == MAX_HELD:
            raise TooMany(MAX_HELD)
        mark = self._making.mark()
        try:
            told = self._making.put_all((item,))
        except (InvalidLength, InvalidItem):
            self._making.go_back(mark)
            raise
        return told_pages(told)

    def finish(self):
        """Ends the items, and returns the tuple of the last pages."""
        self._check_unfinished()
        mark = self._making.mark()
        try:
            told = self._making.finish_all()
        except (InvalidLength, InvalidItem):
            self._making.go_back(mark)
            raise
        self._is_finished = True
        return told_pages(told)

    def _check_unfinished(self):
        """Raises `InvalidOperation` behind `finish`."""
        if self._is_finished:
            raise InvalidOperation("the builder is finished")

    @property
    def style(self):
        """The style of the pages."""
        return self._style

    @property
    def held(self):
        """The tuple of the items that are held, from where the last page stopped on."""
        return tuple(self._making.column.members)

    @property
    def start(self):
        """How many items stand ahead of those that are held."""
        return self._making.first_item

    @property
    def cut(self):
        """The cut at which the next page begins."""
        return (self._making.first_note, self._making.index_of_cut)

    @property
    def waiting(self):
        """For each waiting note of the last page the tuple of its items that are not set."""
        return self._making.unset

    @property
    def top_mark(self):
        """The text of the top mark of the next page."""
        return self._making.mark_ahead

    @property
    def best(self):
        """The triple of the best place, the cut and the cost there, or None."""
        return self._making.best_place()

    @property
    def rest(self):
        """All that tells which pages go out if further items are put [14.8]."""
        return (self.waiting, self.held, self.top_mark, self._making.index_of_cut > 0)

    @property
    def is_finished(self):
        """Whether `finish` was called."""
        return self._is_finished

    def twin(self):
        """An independent copy."""
        other = Builder(self._style)
        other._making = self._making.copied()
        other._is_finished = self._is_finished
        return other
