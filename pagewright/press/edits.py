"""Documents, which are set anew from an edit alone."""

from pagewright.errors import InvalidDocument, InvalidNumber
from pagewright.base.integers import is_between
from pagewright.press.outcomes import begun, renewed
from pagewright.press.press import engine_from, first_held
from pagewright.text.sorts import is_text

MAX_LINES = 400
MAX_COLUMNS = 200

MOST_SIGNS = 20000


def is_line(value):
    """Whether the value is a line of a document."""
    return is_text(value) and len(value) <= MAX_COLUMNS and "\n" not in value


def check_lines(lines):
    """Raises `InvalidDocument` unless the value is a tuple of lines of a document."""
    if not isinstance(lines, tuple) or len(lines) > MAX_LINES or not all([is_line(line) for line in lines]):
        raise InvalidDocument("no lines")
    if sum([len(line) + 1 for line in lines]) > MOST_SIGNS:
        raise InvalidDocument("too many signs")


class Document:
    """Lines that are edited, with their pages and their log."""

    def __init__(self, lines, styles, name, page, *, limit=1000):
        check_lines(lines)
        held = first_held(styles, name, page, limit)
        self._lines = lines
        self._styles = dict(styles)
        self._others = (name, page, limit)
        engine = engine_from(held, self._styles, limit, 0)
        # No place is kept from a setting ahead of this one.
        self._outcome, _ = renewed(begun(held), lines, 0, engine, len(lines) + 1, 0)
        self._work = len(lines)

    def edit(self, line, gone, come):
        """Puts lines in the place of others, and returns the pair of the begin and the end of what is set anew."""
        if not is_between(line, 0, len(self._lines)):
            raise InvalidNumber(line)
        if not is_between(gone, 0, len(self._lines) - line):
            raise InvalidNumber(gone)
        check_lines(come)
        lines = (*self._lines[:line], *come, *self._lines[line + gone:])
        check_lines(lines)
        old = self._outcome
        begin = max([place for place in old.held_at if place <= line])
        engine = engine_from(old.held_at[begin], self._styles, self._others[2], begin)
        self._outcome, end = renewed(old, lines, begin, engine, line + len(come), len(come) - gone)
        self._lines = lines
        self._work += len(lines) - begin if end is None else end - begin
        return (begin, end)

    def _held_ahead(self, place):
        """What is held at a rest place."""
        if not is_between(place, 0, len(self._lines)) or place not in self._outcome.held_at:
            raise InvalidNumber(place)
        return self._outcome.held_at[place]

    def state_ahead(self, place):
        """The state at a rest place, which is compared by `==`."""
        return self._held_ahead(place).told_state()

    def pages_ahead(self, place):
        """How many pages have gone out ahead of a rest place."""
        return self._held_ahead(place).many_out

    @property
    def lines(self):
        """The tuple of the lines."""
        return self._lines

    @property
    def text(self):
        """The text, with a newline behind each line."""
        return "".join([line + "\n" for line in self._lines])

    @property
    def pages(self):
        """The tuple of the pages."""
        return self._outcome.made_boxes

    @property
    def log(self):
        """The log."""
        return self._outcome.entries

    @property
    def rests(self):
        """The ascending tuple of the rest places."""
        return tuple(sorted(self._outcome.held_at))

    @property
    def work(self):
        """How many lines were handed to presses so far."""
        return self._work

    def twin(self):
        """An independent copy, with no work so far."""
        # A document without lines has no work, and shares nothing.
        other = Document((), self._styles, self._others[0], self._others[1], limit=self._others[2])
        other._lines = self._lines
        other._outcome = self._outcome
        return other

    def __len__(self):
        return len(self._lines)

    def __iter__(self):
        return iter(self._lines)

    def __contains__(self, x):
        return isinstance(x, str) and x in self._lines

    def __eq__(self, other):
        if not isinstance(other, Document) or self._lines != other._lines:
            return False
        return self._styles == other._styles and self._others == other._others

    def __str__(self):
        return f"document of {len(self._lines)} lines, {len(self._outcome.made_boxes)} pages"


def first_difference(one, other):
    """How many lines from the beginning two documents have in common, None if their lines are equal."""
    for value in (one, other):
        if not isinstance(value, Document):
            raise InvalidDocument("no document")
    if one.lines == other.lines:
        return None
    many = 0
    while one.lines[many:many + 1] == other.lines[many:many + 1]:
        many += 1
    return many
