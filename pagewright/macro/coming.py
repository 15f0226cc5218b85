"""The tokens that come: first those that were put ahead, then those of a source [6.2]."""

from pagewright.errors import Fault


class Waiting(Exception):
    """A token must come, and the source is not finished."""


class Coming:
    """Coming tokens, as entries: pairs of a token and whether it is still."""

    def __init__(self, source):
        self._source = source
        # The entries put ahead are pairs of the first one and the others, or None, so that going back is cheap.
        self._ahead = None
        # Pairs of a token that the source has told and its line; the first ones are taken.
        self._told = []
        self._many_taken = 0
        self.greatest_line = -1
        # How many lines stand ahead of those of the source.
        self.lines_ahead = 0
        # How many steps were made since the first token of the last new line.
        self.many_steps = 0

    def next_entry(self):
        """The first coming entry, which is not taken, or None if no tokens come any more."""
        if self._ahead is not None:
            return self._ahead[0]
        if self._many_taken == len(self._told) and not self._is_told_one():
            return None
        return (self._told[self._many_taken][0], False)

    def _is_told_one(self):
        """Asks the source for one more token; tells whether there is one."""
        if self._source is None:
            return False
        came = self._source.take()
        if came is not None:
            self._told.append((came[0], came[1][0] + self.lines_ahead))
            return True
        if not self._source.is_finished:
            raise Waiting("a token must come")
        return False

    def take(self):
        """Takes the first coming entry; None if no tokens come any more."""
        entry = self.next_entry()
        if self._ahead is not None:
            self._ahead = self._ahead[1]
        elif entry is not None:
            self._come(self._told[self._many_taken][1])
            self._many_taken += 1
        return entry

    def _come(self, line):
        """Notes that a token of a line comes from the source."""
        if line > self.greatest_line:
            self.greatest_line = line
            self.many_steps = 0

    def must_take_entry(self):
        """Takes the first coming entry, which must come."""
        entry = self.take()
        if entry is None:
            raise Fault("ended")
        return entry

    def must_take(self):
        """Takes the first coming token, which must come."""
        return self.must_take_entry()[0]

    def put(self, entry):
        """Puts an entry ahead of all that comes."""
        self._ahead = (entry, self._ahead)

    def put_all(self, entries):
        """Puts entries ahead, in their order."""
        for entry in reversed(list(entries)):
            self.put(entry)

    def put_tokens(self, tokens, is_still=False):
        """Puts tokens ahead, in their order."""
        self.put_all([(token, is_still) for token in tokens])

    def is_empty(self):
        """Whether no token waits that is put ahead or told by the source, right behind `mark` or `go_back`."""
        return self._ahead is None and len(self._told) == 0

    def mark(self):
        """All that is told to `go_back`; what the source has told stays told."""
        del self._told[:self._many_taken]
        self._many_taken = 0
        return (self._ahead, self.greatest_line, self.many_steps)

    def go_back(self, mark):
        """Makes all as it was when the last mark was made."""
        self._ahead, self.greatest_line, self.many_steps = mark
        self._many_taken = 0
