"""How the use of a macro is matched, token by token [4.2]."""

from pagewright.errors import BadUse
from pagewright.text.rows import change_of_depth
from pagewright.text.sorts import BLANK
from pagewright.text.writing import PARAGRAPH


def is_group(tokens):
    """Whether tokens, nowhere of a depth below 0, are a group [0.11]."""
    if len(tokens) == 0 or change_of_depth(tokens[0]) != 1:
        return False
    depth = 0
    for index, token in enumerate(tokens):
        depth += change_of_depth(token)
        if depth == 0:
            return index == len(tokens) - 1
    return False


class Matching:
    """A match that is made, as far as the tokens go that are there."""

    def __init__(self, macro, start):
        self._head = macro.head
        self._delimiters = macro.delimiters
        self._is_long = macro.is_long
        self._arguments = []
        self._seams = []
        # The index, how many tokens of the head have been found, and where the present argument begins.
        self._at = start
        self._many_of_head = 0
        self._begin = start
        self._depth = 0
        self._blanks = 0

    def go_on(self, row):
        """Moves along a row that can have become longer, as far as it goes; tells whether the match is made.

        A move that needs more tokens changes nothing, so it is tried again when they are there.
        """
        while not self._is_made() and self._moves(row):
            pass
        return self._is_made()

    def told_arguments(self):
        """The tuple of the arguments that are taken."""
        return tuple(self._arguments)

    def told_seams(self):
        """The tuple of the seams of these."""
        return tuple(self._seams)

    def index_behind(self):
        """The index behind all that is matched."""
        return self._at

    def _is_made(self):
        """Whether the head stands there, and all arguments are taken."""
        return self._many_of_head == len(self._head) and len(self._arguments) == len(self._delimiters)

    def _moves(self, row):
        """Makes the next move; False if more tokens are needed for it."""
        if self._many_of_head < len(self._head):
            return self._moves_in_head(row)
        delimiter = self._delimiters[len(self._arguments)]
        if len(delimiter) == 0:
            return self._moves_in_plain_slot(row)
        return self._moves_to_delimiter(row, delimiter)

    def _moves_in_head(self, row):
        """Finds one more token of the head."""
        if self._at == len(row):
            return False
        if row[self._at] != self._head[self._many_of_head]:
            raise BadUse(self._at)
        self._many_of_head += 1
        self._at += 1
        self._begin = self._at
        return True

    def _moves_in_plain_slot(self, row):
        """Passes over a blank token, or takes one token for a slot without a delimiter."""
        if self._at == len(row):
            return False
        if self._depth == 0 and row[self._at] == BLANK:
            self._blanks += 1
            self._at += 1
            self._begin = self._at
            return True
        self._take(row[self._at])
        if self._depth == 0:
            argument = tuple(row[self._begin:self._at])
            self._keep(argument, len(argument) > 1)
        return True

    def _moves_to_delimiter(self, row, delimiter):
        """Takes one token for a slot with a delimiter, or finds the delimiter."""
        if self._depth == 0:
            told = tuple(row[self._at:self._at + len(delimiter)])
            if told == delimiter:
                argument = tuple(row[self._begin:self._at])
                self._at += len(delimiter)
                self._keep(argument, is_group(argument))
                return True
            if told == delimiter[:len(told)]:
                return False
        elif self._at == len(row):
            return False
        self._take(row[self._at])
        return True

    def _take(self, token):
        """Takes a token into the present argument."""
        change = change_of_depth(token)
        if self._depth + change < 0 or (token == PARAGRAPH and not self._is_long):
            raise BadUse(self._at)
        self._depth += change
        self._at += 1

    def _keep(self, argument, is_in_braces):
        """Ends the present argument, and begins the next one."""
        pair = None
        if is_in_braces:
            pair = (argument[0], argument[-1])
            argument = argument[1:-1]
        self._arguments.append(argument)
        self._seams.append((self._blanks, pair))
        self._begin = self._at
        self._blanks = 0
