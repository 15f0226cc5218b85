"""The press, which makes pages of a text."""

from pagewright.errors import InvalidNumber, InvalidRules, UnknownName
from pagewright.base.integers import is_between
from pagewright.line.styles import Style
from pagewright.macro.expander import MAX_LIMIT, standard_meanings
from pagewright.macro.scopes import Scope, is_word
from pagewright.page.builder import Builder
from pagewright.press.engine import Engine
from pagewright.press.lists import MAIN, Held, OpenList
from pagewright.press.present import STYLE_ROW, letter_tokens
from pagewright.text.reader import Reader

DEEDS = (
    "everywhere", "number", "length", "glue", "row", "add", "define", "longdefine", "fulldefine", "let", "change",
    "style", "behind", "kern", "skip", "penalty", "rule", "mark", "part", "indent", "noindent", "par", "rowbox",
    "columnbox", "note", "shift", "pagebox",
)
MAX_PAGES = 1000
MAX_OPEN = 50

MOST_STYLES = 20


def are_styles(value):
    """Whether the value is a dict from names to styles."""
    if not isinstance(value, dict) or not 1 <= len(value) <= MOST_STYLES:
        return False
    return all([is_word(name) and isinstance(value[name], Style) for name in value])


def first_held(styles, name, page, limit):
    """What a press holds at the beginning; raises the error of the first argument that is wrong."""
    if not are_styles(styles):
        raise InvalidRules("no dict from names to styles")
    if not isinstance(name, str) or name not in styles:
        raise UnknownName(name)
    builder = Builder(page)
    if not is_between(limit, 1, MAX_LIMIT):
        raise InvalidNumber(limit)
    meanings = standard_meanings()
    for word in DEEDS:
        meanings[("word", word)] = ("command", word)
    scope = Scope(meanings=meanings)
    scope.assign("row", STYLE_ROW, letter_tokens(name))
    return Held(scope.state, (OpenList(MAIN, None),), (), builder, None, 0, -1, False)


def engine_from(held, styles, limit, lines_ahead):
    """The engine of a press that goes on from what is held, with so many lines ahead."""
    return Engine(styles, limit, held, lines_ahead, MAX_PAGES, MAX_OPEN)


class Press:
    """Makes pages of a text that comes in pieces."""

    def __init__(self, styles, name, page, *, limit=1000):
        held = first_held(styles, name, page, limit)
        self._engine = engine_from(held, dict(styles), limit, 0)
        self._is_finished = False

    def feed(self, piece):
        """Takes the next piece of the text, and returns the tuple of the boxes that go out."""
        many = len(self._engine.made_boxes)
        self._engine.feed(piece)
        return tuple(self._engine.made_boxes[many:])

    def finish(self):
        """Ends the text, and returns the tuple of the last boxes that go out."""
        many = len(self._engine.made_boxes)
        self._engine.finish()
        self._is_finished = True
        return tuple(self._engine.made_boxes[many:])

    @property
    def pages(self):
        """The tuple of all boxes that have gone out."""
        return tuple(self._engine.made_boxes)

    @property
    def log(self):
        """The tuple of all that was noted."""
        return tuple(self._engine.entries)

    @property
    def modes(self):
        """The tuple of the modes of the open lists, the lowest one first."""
        return tuple([one.mode for one in self._engine.lists])

    @property
    def level(self):
        """The number of open groups."""
        return self._engine.scope.level

    @property
    def line(self):
        """The index of the last line of which a token has come, or -1."""
        return self._engine.machine.greatest_line

    @property
    def is_stopped(self):
        """Whether the press has stopped for a fault."""
        return self._engine.has_stopped

    @property
    def is_finished(self):
        """Whether `finish` was called."""
        return self._is_finished

    def value_of(self, kind, key):
        """The value that holds now."""
        return self._engine.scope.value_of(kind, key)

    def __len__(self):
        return len(self._engine.made_boxes)

    def __iter__(self):
        return iter(self._engine.made_boxes)

    def __contains__(self, x):
        return x in self.pages

    def __str__(self):
        return f"press with {len(self._engine.made_boxes)} pages, in {self.modes[-1]}"


def set_text(text, styles, name, page, *, limit=1000):
    """The pair of the pages and the log of a text."""
    # What is wrong with the text is told ahead of what is wrong with a press.
    Reader().feed(text)
    press = Press(styles, name, page, limit=limit)
    press.feed(text)
    press.finish()
    return (press.pages, press.log)
