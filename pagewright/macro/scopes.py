"""Scopes, which hold values within groups."""

from pagewright.errors import (
    InvalidGlue, InvalidLength, InvalidNumber, InvalidOperation, InvalidRow, InvalidScope, InvalidSort, InvalidToken,
    TooMany,
)
from pagewright.base.glue import Glue
from pagewright.base.integers import is_int
from pagewright.base.lengths import is_length
from pagewright.macro.macros import Macro
from pagewright.text.rows import is_balanced, is_row
from pagewright.text.sorts import Sorts, is_sign, is_sort, is_token, plain_sort

KINDS = ("meaning", "number", "length", "glue", "row", "sort")
MAX_REGISTER = 255
MAX_LEVEL = 100
MAX_BEHIND = 100

NUMBER_END = 2 ** 31
MOST_TOKENS = 1000
MOST_LETTERS = 12
LETTERS = "abcdefghijklmnopqrstuvwxyz"


def is_word(value):
    """Whether the value has 1 to 12 letters a to z."""
    if not isinstance(value, str) or not 1 <= len(value) <= MOST_LETTERS:
        return False
    return all([letter in LETTERS for letter in value])


def is_name_of_meaning(value):
    """Whether the value is a token that can have a meaning."""
    return is_token(value) and (value[0] == "word" or value[2] == "active")


def is_meaning(value):
    """Whether the value is a meaning [5.1]."""
    if value is None or isinstance(value, Macro):
        return True
    if isinstance(value, tuple) and len(value) == 2 and value[0] == "command":
        return is_word(value[1])
    return is_token(value) and value[0] == "sign"


def are_meanings(value):
    """Whether the value is a dict that gives meanings to keys."""
    if not isinstance(value, dict):
        return False
    return all([is_name_of_meaning(key) and is_meaning(meaning) for key, meaning in value.items()])


def check_key(kind, key):
    """Raises the error of a kind that is none, or of a key that is none of this kind."""
    if not isinstance(kind, str) or kind not in KINDS:
        raise InvalidOperation("no kind of values")
    if kind == "meaning":
        if not is_name_of_meaning(key):
            raise InvalidToken("no token that can have a meaning")
    elif kind == "sort":
        if not is_sign(key):
            raise InvalidSort("no sign")
    elif not is_int(key) or not 0 <= key <= MAX_REGISTER:
        raise InvalidNumber(key)


def check_value(kind, value):
    """Raises the error of a value that is none of this kind."""
    if kind == "meaning" and not is_meaning(value):
        raise InvalidOperation("no meaning")
    if kind == "number" and (not is_int(value) or abs(value) >= NUMBER_END):
        raise InvalidNumber(value)
    if kind == "length" and not is_length(value):
        raise InvalidLength("no length")
    if kind == "glue" and not isinstance(value, Glue):
        raise InvalidGlue("no glue")
    if kind == "row" and not is_short_row(value):
        raise InvalidRow("no balanced row of so few tokens")
    if kind == "sort" and not is_sort(value):
        raise InvalidSort("no sort")


def is_short_row(value):
    """Whether the value is a row that a scope can hold."""
    return is_row(value) and len(value) <= MOST_TOKENS and is_balanced(value)


def first_value(kind, key):
    """The value at the beginning [5.1]."""
    if kind == "meaning":
        return None
    if kind == "glue":
        return Glue(0)
    if kind == "row":
        return ()
    if kind == "sort":
        return plain_sort(key)
    return 0


def held_value(levels, place):
    """The value that holds at the last one of some levels, for a pair of a kind and a key."""
    for values in reversed(list(levels)):
        if place in values:
            return values[place]
    kind, key = place
    return first_value(kind, key)


def copy_of_levels(levels):
    """A copy that does not change with the levels."""
    return [{place: values[place] for place in values} for values in levels]


class State:
    """All that a scope holds, at one time. It never changes."""

    def __init__(self, levels, words, behind):
        self._levels = copy_of_levels(levels)
        self._words = tuple(words)
        self._behind = tuple(behind)

    def told_levels(self):
        """The dicts of values, from level 0 on."""
        return copy_of_levels(self._levels)

    def told_words(self):
        """The words of the groups."""
        return list(self._words)

    def told_behind(self):
        """The tokens put behind the groups."""
        return list(self._behind)

    def __eq__(self, other):
        if not isinstance(other, State) or self._words != other._words or self._behind != other._behind:
            return False
        return self._levels == other._levels


class Scope:
    """Values of kinds and keys, some of which hold in a group alone."""

    def __init__(self, *, meanings=None):
        if meanings is None:
            meanings = {}
        if not are_meanings(meanings):
            raise InvalidOperation("no dict from keys to meanings")
        # One dict for each level, from pairs of a kind and a key. It has no value that holds one level below, or
        # from the beginning at level 0, so equal states have equal dicts [5.5].
        self._levels = [{("meaning", key): meanings[key] for key in meanings if meanings[key] is not None}]
        self._words = []
        self._behind = []

    def value_of(self, kind, key):
        """The value that holds now."""
        check_key(kind, key)
        return held_value(self._levels, (kind, key))

    def assign(self, kind, key, value, *, everywhere=False):
        """Gives a value, and returns the one that held."""
        check_key(kind, key)
        check_value(kind, value)
        if not isinstance(everywhere, bool):
            raise InvalidOperation("no boolean")
        held = held_value(self._levels, (kind, key))
        if everywhere:
            for values in list(self._levels):
                values.pop((kind, key), None)
            self._put((kind, key), value, 0)
        else:
            self._put((kind, key), value, len(self._words))
        return held

    def _put(self, place, value, level):
        """Gives a value at a level, above which there is no other one."""
        self._levels[level].pop(place, None)
        if held_value(self._levels, place) != value:
            self._levels[level][place] = value

    def enter(self, word="group"):
        """Begins a group."""
        if not is_word(word):
            raise InvalidOperation("no word for a group")
        if len(self._words) == MAX_LEVEL:
            raise TooMany(MAX_LEVEL)
        self._levels.append({})
        self._words.append(word)
        self._behind.append(())

    def leave(self):
        """Ends the innermost group, and returns the row of the tokens that were put behind it."""
        self._check_group()
        self._levels.pop()
        self._words.pop()
        return self._behind.pop()

    def put_behind(self, token):
        """Puts a token behind the innermost group."""
        if not is_token(token):
            raise InvalidToken("no token")
        self._check_group()
        if len(self._behind[-1]) == MAX_BEHIND:
            raise TooMany(MAX_BEHIND)
        self._behind[-1] = (*self._behind[-1], token)

    def _check_group(self):
        """Raises `InvalidOperation` at level 0."""
        if len(self._words) == 0:
            raise InvalidOperation("no group is open")

    @property
    def level(self):
        """The number of open groups."""
        return len(self._words)

    @property
    def words(self):
        """The words of the open groups, the outermost one first."""
        return tuple(self._words)

    @property
    def sorts(self):
        """The table of the sorts that hold now."""
        changes = {}
        for values in self._levels:
            for kind, key in values:
                if kind == "sort":
                    changes[key] = values[(kind, key)]
        return Sorts(changes)

    @property
    def state(self):
        """All that the scope holds."""
        return State(self._levels, self._words, self._behind)

    def twin(self):
        """A scope with the same state, which changes on its own."""
        other = Scope()
        other.restore(self.state)
        return other

    def restore(self, state):
        """Gives the scope a state that some scope told."""
        if not isinstance(state, State):
            raise InvalidScope("no state of a scope")
        self._levels = state.told_levels()
        self._words = state.told_words()
        self._behind = state.told_behind()

    def __eq__(self, other):
        if not isinstance(other, Scope) or self._words != other._words or self._behind != other._behind:
            return False
        return self._levels == other._levels

    def __str__(self):
        places = {place: True for values in self._levels for place in values if place[0] == "meaning"}
        meanings = [place for place in places if held_value(self._levels, place) is not None]
        return f"scope at level {len(self._words)}, {len(meanings)} meanings"
