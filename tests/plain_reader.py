"""A reader by [2.2] and [2.3], for the tests alone: as simple as can be, and made on its own."""

BLANK = ("sign", " ", "blank")
PARAGRAPH = ("word", "par")


def lines_of(text):
    """The signs of each line that are read, without the newline [2.2]."""
    lines = text.split("\n")
    if lines[-1] == "":
        lines.pop()
    return [line.rstrip(" ") for line in lines]


def tokens_of(text, sorts):
    """All tokens of a text under a table, something that tells a sort by `sorts[sign]`."""
    tokens = []
    for line in lines_of(text):
        tokens.extend(tokens_of_line(line + "\n", sorts))
    return tuple(tokens)


def tokens_of_line(signs, sorts):
    """The tokens of the signs of a line, the newline being the last one [2.3]."""
    tokens, state, at = [], "new", 0
    while at < len(signs):
        sort = sorts[signs[at]]
        if sort == "escape":
            name, state = name_at(signs, at + 1, sorts)
            tokens.append(("word", name if name else "\n"))
            at += 1 + len(name)
            continue
        if sort in ("open", "close", "slot", "letter", "other", "active"):
            tokens.append(("sign", signs[at], sort))
            state = "mid"
        elif sort == "blank":
            if state == "mid":
                tokens.append(BLANK)
                state = "skip"
        elif sort == "end":
            if state == "new":
                tokens.append(PARAGRAPH)
            elif state == "mid":
                tokens.append(BLANK)
        if sort in ("end", "comment"):
            return tokens
        at += 1
    return tokens


def name_at(signs, at, sorts):
    """The name of the word whose name begins at an index, and the state behind it; an empty name at the end."""
    if at == len(signs):
        return "", "mid"
    if sorts[signs[at]] != "letter":
        return signs[at], "skip" if sorts[signs[at]] == "blank" else "mid"
    end = at
    while end < len(signs) and end < at + 60 and sorts[signs[end]] == "letter":
        end += 1
    return signs[at:end], "skip"


class PlainReader:
    """A reader that keeps the whole text, and looks at all of it again whenever it is asked for a token."""

    def __init__(self, sorts):
        self.sorts = dict(sorts)
        self.text = ""
        self.is_finished = False
        self.state = "new"
        self.line = 0
        self.at = 0

    def lines(self):
        """The signs of all lines that can be read, each with its newline."""
        parts = self.text.split("\n")
        last = parts.pop()
        if self.is_finished and last != "":
            parts.append(last)
        return [part.rstrip(" ") + "\n" for part in parts]

    def waiting_part(self):
        """What came of a line that cannot be read yet."""
        return "" if self.is_finished else self.text.split("\n")[-1]

    def is_at_rest(self):
        return self.line == len(self.lines()) and self.waiting_part() == ""

    def key(self):
        """What two readers have in common exactly if they are equal."""
        lines = self.lines()[self.line:]
        unread = "".join(lines)[self.at:] + self.waiting_part()
        return (sorted(self.sorts.items()), self.state, self.line, len(self.text), self.at, unread, self.is_finished)

    def take(self):
        while self.line < len(self.lines()):
            signs = self.lines()[self.line]
            place = (self.line, self.at)
            token = self.token(signs)
            if self.at >= len(signs):
                self.line, self.at, self.state = self.line + 1, 0, "new"
            if token is not None:
                return (token, place)
        return None

    def token(self, signs):
        sign = signs[self.at]
        sort = self.sorts[sign]
        self.at += 1
        if sort == "escape":
            name, self.state = name_at(signs, self.at, self.sorts)
            self.at += len(name)
            return ("word", name if name else "\n")
        if sort in ("end", "comment"):
            self.at = len(signs)
            if sort == "end" and self.state != "skip":
                return PARAGRAPH if self.state == "new" else BLANK
        elif sort == "blank":
            if self.state == "mid":
                self.state = "skip"
                return BLANK
        elif sort != "ignored":
            self.state = "mid"
            return ("sign", sign, sort)
        return None
