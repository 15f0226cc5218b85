"""The reader, which makes tokens of a text that comes in pieces."""

from pagewright.errors import InvalidOperation, ParseError, TooMany
from pagewright.text.rows import MAX_ROW, table_for
from pagewright.text.sorts import MAX_NAME, MAX_SIGNS, is_sign
from pagewright.text.writing import state_behind, token_of


def check_piece(piece):
    """Raises `ParseError` unless the value is a text."""
    if not isinstance(piece, str):
        raise ParseError(None)
    for index, sign in enumerate(piece):
        if not is_sign(sign):
            raise ParseError(index)


def whole_line(signs):
    """The signs of a line that are read, for those ahead of its newline [2.2]."""
    return signs.rstrip(" ") + "\n"


def end_of_name(signs, begin, sorts):
    """The index behind the name that begins in a line, directly behind an escape sign."""
    end = begin
    while end < len(signs) and end < begin + MAX_NAME and sorts[signs[end]] == "letter":
        end += 1
    return max(end, begin + 1)


class Reader:
    """A reader of a text that comes in pieces."""

    def __init__(self, sorts=None):
        self._sorts = table_for(sorts)
        self._state = "new"
        self._line = 0
        self._at = 0
        self._many = 0
        # The lines that can be read, the present one first; and what came of the one behind them.
        self._lines = []
        self._part = ""
        self._is_finished = False

    def feed(self, piece):
        """Takes the next piece of the text."""
        check_piece(piece)
        self._check_unfinished()
        if self._many + len(piece) > MAX_SIGNS:
            raise TooMany(MAX_SIGNS)
        self._many += len(piece)
        *lines, self._part = (self._part + piece).split("\n")
        self._lines.extend([whole_line(signs) for signs in lines])

    def finish(self):
        """Tells that the text is whole."""
        self._check_unfinished()
        self._is_finished = True
        if self._part != "":
            self._lines.append(whole_line(self._part))
            self._part = ""

    def _check_unfinished(self):
        """Raises `InvalidOperation` if the text is whole already."""
        if self._is_finished:
            raise InvalidOperation("the text is whole")

    def take(self):
        """Reads on until a token comes, and returns the pair of it and its place, or None."""
        many_read = 0
        came = None
        while came is None and many_read < len(self._lines):
            signs = self._lines[many_read]
            came = self._read_on(signs)
            if self._at == len(signs):
                self._line += 1
                self._at = 0
                self._state = "new"
                many_read += 1
        del self._lines[:many_read]
        return came

    def _read_on(self, signs):
        """Reads on in a line until a token comes, or the line ends; returns the token with its place, or None."""
        token = None
        first = self._at
        while token is None and self._at < len(signs):
            first = self._at
            token = self._read_sign(signs, first)
        if token is None:
            return None
        return (token, (self._line, first))

    def _read_sign(self, signs, first):
        """Reads one sign, with the name behind it if one begins; returns the token that comes, or None."""
        sign = signs[first]
        sort = self._sorts[sign]
        if sort == "escape" and first + 1 < len(signs):
            return self._read_name(signs, first + 1)
        token = token_of(self._state, sign, sort)
        if sort in ("end", "comment"):
            self._at = len(signs)
        else:
            self._at = first + 1
            self._state = state_behind(self._state, sort)
        return token

    def _read_name(self, signs, begin):
        """Reads the name of a word, and returns the word."""
        self._at = end_of_name(signs, begin, self._sorts)
        self._state = "mid"
        if self._sorts[signs[begin]] in ("letter", "blank"):
            self._state = "skip"
        return ("word", signs[begin:self._at])

    def change(self, sign, sort):
        """Gives a sign another sort from now on."""
        self._sorts = self._sorts.with_sort(sign, sort)

    @property
    def sorts(self):
        """The present table of sorts."""
        return self._sorts

    @property
    def state(self):
        """The state: `"new"`, `"mid"` or `"skip"`."""
        return self._state

    @property
    def line(self):
        """The index of the line in which one reads on."""
        return self._line

    @property
    def is_finished(self):
        """Whether the text is whole."""
        return self._is_finished

    @property
    def is_at_rest(self):
        """Whether nothing that came is still to be read."""
        return len(self._lines) == 0 and self._part == ""

    def twin(self):
        """A reader in the same state, which goes on by itself."""
        other = Reader(self._sorts)
        other._state = self._state
        other._line = self._line
        other._at = self._at
        other._many = self._many
        other._lines = list(self._lines)
        other._part = self._part
        other._is_finished = self._is_finished
        return other

    def _parts(self):
        """All that tells the state of the reader, but for the sorts."""
        unread = "".join(self._lines)[self._at:] + self._part
        return (self._state, self._line, self._at, self._many, unread, self._is_finished)

    def __eq__(self, other):
        return isinstance(other, Reader) and self._sorts == other._sorts and self._parts() == other._parts()

    def __str__(self):
        return f"reader at line {self._line}"


def placed_tokens(text, sorts=None):
    """The tuple of all pairs of a token of a text and its place."""
    check_piece(text)
    reader = Reader(sorts)
    reader.feed(text)
    reader.finish()
    placed = []
    came = reader.take()
    while came is not None:
        if len(placed) == MAX_ROW:
            raise TooMany(MAX_ROW)
        placed.append(came)
        came = reader.take()
    return tuple(placed)


def tokens_of(text, sorts=None):
    """The tuple of all tokens of a text."""
    return tuple([token for token, _ in placed_tokens(text, sorts)])
