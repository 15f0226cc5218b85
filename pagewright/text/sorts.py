"""Signs and their sorts, and tokens."""

from pagewright.errors import InvalidSort

SORTS = ("escape", "open", "close", "end", "slot", "ignored", "blank", "letter", "other", "active", "comment")
MAX_SIGNS = 20000

MAX_NAME = 60
SIGNS = "\n !\"#$&'()*+,-./0123456789:;<=>?@ABCDEFGHIJKLMNOPQRSTUVWXYZ[\\]^_`abcdefghijklmnopqrstuvwxyz{|}~"
TOKEN_SORTS = ("open", "close", "slot", "letter", "other", "active")
BLANK = ("sign", " ", "blank")
PLAIN = {
    "\\": "escape", "{": "open", "}": "close", "\n": "end", "#": "slot", " ": "blank", "~": "active", "`": "comment",
}


def plain_sort(sign):
    """The plain sort of a sign [2.1]."""
    if sign in PLAIN:
        return PLAIN[sign]
    if sign.isalpha():
        return "letter"
    return "other"


def is_sign(value):
    """Whether the value is a sign [0.8]."""
    return isinstance(value, str) and len(value) == 1 and value in SIGNS


def is_text(value):
    """Whether the value is a text, of whatever length."""
    return isinstance(value, str) and all([sign in SIGNS for sign in value])


def is_name(value):
    """Whether the value is a name."""
    return isinstance(value, str) and 1 <= len(value) <= MAX_NAME and is_text(value)


def is_sort(value):
    """Whether the value is a sort [0.9]."""
    return isinstance(value, str) and value in SORTS


def is_token(value):
    """Whether the value is a token [0.10]."""
    if not isinstance(value, tuple):
        return False
    if len(value) == 2:
        return value[0] == "word" and is_name(value[1])
    if len(value) != 3 or value[0] != "sign" or not is_sign(value[1]):
        return False
    return value == BLANK or value[2] in TOKEN_SORTS


def are_changes(value):
    """Whether the value is a dict from signs to sorts."""
    return isinstance(value, dict) and all([is_sign(sign) and is_sort(value[sign]) for sign in value])


class Sorts:
    """A table that tells the sort of each sign. It never changes."""

    def __init__(self, changes=None):
        if changes is None:
            changes = {}
        if not are_changes(changes):
            raise InvalidSort("no dict from signs to sorts")
        # Plain sorts are left out, so that equal tables have equal dicts.
        self._changes = {sign: changes[sign] for sign in sorted(changes) if changes[sign] != plain_sort(sign)}

    @property
    def changes(self):
        """The signs whose sort is not the plain one, with their sorts, ascending."""
        return dict(self._changes)

    def __getitem__(self, at):
        if not is_sign(at):
            raise InvalidSort("no sign")
        if at in self._changes:
            return self._changes[at]
        return plain_sort(at)

    def __iter__(self):
        raise TypeError("a table of sorts is not iterated over")

    def with_sort(self, sign, sort):
        """The table with another sort of one sign."""
        if not is_sign(sign) or not is_sort(sort):
            raise InvalidSort("no sign, or no sort")
        changes = dict(self._changes)
        changes[sign] = sort
        return Sorts(changes)

    def signs_of(self, sort):
        """The ascending tuple of the signs with a sort."""
        if not is_sort(sort):
            raise InvalidSort("no sort")
        return tuple([sign for sign in SIGNS if self[sign] == sort])

    def __eq__(self, other):
        return isinstance(other, Sorts) and self._changes == other._changes

    def __str__(self):
        return f"sorts with {len(self._changes)} changes"
