"""Rows of tokens: how they are nested, and which texts have them."""

from pagewright.errors import InvalidNumber, InvalidOperation, InvalidRow, InvalidSort, TooMany
from pagewright.base.integers import is_int
from pagewright.text.sorts import MAX_SIGNS, Sorts, is_token
from pagewright.text.writing import shortest_text, ways_along

MAX_ROW = 5000


def is_row(value):
    """Whether the value is a row of tokens [0.11]."""
    return isinstance(value, tuple) and len(value) <= MAX_ROW and all([is_token(token) for token in value])


def check_row(row):
    """Raises `InvalidRow` unless the value is a row of tokens."""
    if not is_row(row):
        raise InvalidRow("no row of tokens")


def table_for(sorts):
    """The table of sorts that is passed, the plain one for `None`."""
    if sorts is None:
        return Sorts()
    if not isinstance(sorts, Sorts):
        raise InvalidSort("no table of sorts")
    return sorts


def change_of_depth(token):
    """By how much the depth behind a token is greater than the one ahead of it."""
    if token[0] == "sign" and token[2] == "open":
        return 1
    if token[0] == "sign" and token[2] == "close":
        return -1
    return 0


def is_balanced(row):
    """Whether the depth is nowhere below 0, and 0 at the end."""
    told = depths(row)
    return min(told) == 0 and told[-1] == 0


def depths(row):
    """The tuple of the depths at all indices, from 0 to the length of the row."""
    check_row(row)
    told = [0]
    for token in row:
        told.append(told[-1] + change_of_depth(token))
    return tuple(told)


def partner(row, index):
    """The index of the close or open token that belongs to the open or close token at an index."""
    check_row(row)
    if not is_int(index) or not 0 <= index < len(row) or change_of_depth(row[index]) == 0:
        raise InvalidNumber(index)
    step = change_of_depth(row[index])
    depth = step
    place = index + step
    while 0 <= place < len(row):
        depth += change_of_depth(row[place])
        if depth == 0:
            return place
        place += step
    raise InvalidOperation("no token belongs to it")


def first_unreadable(row, sorts=None):
    """The least index of a token such that no text begins with the row up to it, itself included, or `None`."""
    check_row(row)
    many, _ = ways_along(row, table_for(sorts))
    if many == len(row):
        return None
    return many


def is_readable(row, sorts=None):
    """Whether some text has just the tokens of the row."""
    check_row(row)
    return shortest_text(row, table_for(sorts)) is not None


def text_of(row, sorts=None):
    """A text that has just the tokens of the row."""
    check_row(row)
    text = shortest_text(row, table_for(sorts))
    if text is None:
        raise InvalidOperation("no text has this row")
    if len(text) > MAX_SIGNS:
        raise TooMany(MAX_SIGNS)
    return text
