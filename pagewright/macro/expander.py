"""Expanders, which make of macros and commands the tokens that they stand for."""

from pagewright.errors import Fault, InvalidNumber, InvalidOperation, InvalidScope, TooMany
from pagewright.base.integers import is_int
from pagewright.macro.coming import Waiting
from pagewright.macro.machine import Machine
from pagewright.macro.quantities import read_glue, read_length, read_number
from pagewright.macro.scopes import Scope
from pagewright.text.reader import Reader
from pagewright.text.rows import MAX_ROW, check_row

WAITS = "waits"
COMMANDS = (
    "after", "keep", "name", "show", "digits", "value", "iftrue", "iffalse", "ifnumber", "iflength", "ifodd", "ifsame",
    "ifsign", "ifcase", "else", "or", "fi",
)

OTHER_COMMANDS = ("endname", "number", "length", "glue", "row")
MAX_LIMIT = 100000


def standard_meanings():
    """The dict of the meanings that words of commands have of themselves."""
    return {("word", word): ("command", word) for word in (*COMMANDS, *OTHER_COMMANDS)}


def ask_token(machine):
    """The token that is asked for, or None."""
    return token_in(machine.ask_entry())


def take_token(machine):
    """The next coming token, or None."""
    return token_in(machine.take())


def token_in(entry):
    """The token of an entry, None for None."""
    if entry is None:
        return None
    return entry[0]


def whole_expansion(machine):
    """All tokens that come, if no condition is left open."""
    tokens = []
    many = 0
    entry = machine.ask_entry()
    while entry is not None:
        many += 1
        # More tokens are not kept, but another fault behind them comes first.
        if many <= MAX_ROW:
            tokens.append(entry[0])
        entry = machine.ask_entry()
    if len(machine.conditions) > 0:
        raise Fault("ended")
    if many > MAX_ROW:
        raise TooMany(MAX_ROW)
    return tuple(tokens)


def expanded(machine, row):
    """The tokens that come if a row alone is asked for to its end; the steps count for a machine."""
    inner = Machine(machine.scope, None, machine.limit)
    inner.many_steps = machine.many_steps
    inner.put_tokens(row)
    tokens = whole_expansion(inner)
    machine.many_steps = inner.many_steps
    return tokens


class Expander:
    """Tells tokens one after the other, those that are pushed and those of a source, and expands them."""

    def __init__(self, scope, source=None, *, limit=1000):
        if not isinstance(scope, Scope):
            raise InvalidScope("no scope")
        if source is not None and not isinstance(source, Reader):
            raise InvalidOperation("no reader")
        if not is_int(limit) or not 1 <= limit <= MAX_LIMIT:
            raise InvalidNumber(limit)
        self._machine = Machine(scope, source, limit)

    def push(self, row):
        """Puts a row ahead of all that comes."""
        check_row(row)
        self._machine.put_tokens(row)

    def ask(self):
        """The token that is asked for; None if no tokens come any more."""
        return self._told_by(ask_token)

    def take(self):
        """The next coming token, not expanded; None if no tokens come any more."""
        return self._told_by(take_token)

    def number(self):
        """The number that is read."""
        return self._told_by(read_number)

    def length(self):
        """The length that is read."""
        return self._told_by(read_length)

    def glue(self):
        """The glue that is read."""
        return self._told_by(read_glue)

    def _told_by(self, read):
        """What a function tells of the machine; `WAITS`, with all as it was, if a token must come."""
        machine = self._machine
        mark = machine.mark()
        conditions = machine.conditions
        try:
            return read(machine)
        except Waiting:
            machine.go_back(mark)
            machine.conditions = conditions
            return WAITS

    def whole(self, row):
        """The tokens that come if the row alone is asked for to its end."""
        check_row(row)
        return expanded(self._machine, row)

    @property
    def steps(self):
        """How many steps count for the limit."""
        return self._machine.many_steps

    @property
    def many_open(self):
        """The number of open conditions."""
        return len(self._machine.conditions)

    @property
    def line(self):
        """The greatest index of the line of a token that came from the source, or -1."""
        return self._machine.greatest_line
