"""The search for a text that has a row of tokens: the shortest ways through all that a reader can be in [3.2]."""

from pagewright.text.sorts import BLANK, MAX_NAME, SIGNS

PARAGRAPH = ("word", "par")

# Spaces at the end of a line are not read, so an unread sign must stand behind a space that has to be read.
FILLER = "x"

# A node is the state of a reader, and what one is directly behind. This is "top", the beginning of the text or
# an empty line; "line", another line; "sign", a sign other than a space; "space"; or fewer than sixty letters
# of a word, of which the last one is a space ("wide") or is none ("word").
NODES = (
    ("new", "top"), ("new", "line"), ("mid", "sign"), ("mid", "space"),
    ("skip", "sign"), ("skip", "space"), ("skip", "word"), ("skip", "wide"),
)
BEGIN = ("new", "top")
LINE_END = ("new", "line")


def place_behind(sign):
    """What one is directly behind, when a sign of a line has been read, and no word can go on."""
    if sign == " ":
        return "space"
    return "sign"


def place_in_word(sign):
    """What one is directly behind, when a word can go on behind a letter."""
    if sign == " ":
        return "wide"
    return "word"


def can_come(node, sign, sort):
    """Whether a sign can be the next one that is read at a node, alone."""
    if sign == "\n":
        if node[1] in ("space", "wide"):
            return False
    elif sort == "escape":
        return False
    return sort != "letter" or node[1] not in ("word", "wide")


def token_of(state, sign, sort):
    """The token that comes of a sign that is read alone, or None."""
    if sort == "escape":
        return ("word", sign)
    if sort in ("ignored", "comment"):
        return None
    if sort == "end" and state == "new":
        return PARAGRAPH
    if sort in ("blank", "end"):
        if state == "mid":
            return BLANK
        return None
    return ("sign", sign, sort)


def state_behind(state, sort):
    """The state behind a sign that is read alone, if its line goes on."""
    if sort == "ignored" or (sort == "blank" and state == "new"):
        return state
    if sort == "blank":
        return "skip"
    return "mid"


def signs_for(sign, sort):
    """What is written for a sign that is read alone: up to the end of the line, if this is not read."""
    if sign == "\n" or sort not in ("end", "comment"):
        return sign
    if sign == " ":
        return sign + FILLER + "\n"
    return sign + "\n"


def node_behind(node, sign, sort):
    """The node behind what is written for a sign that is read alone."""
    state, place = node
    if sign == "\n" and place in ("top", "line"):
        return BEGIN
    if sign == "\n" or sort in ("end", "comment"):
        return LINE_END
    return (state_behind(state, sort), place_behind(sign))


def word_step(name, table, escape):
    """The node behind a word that the escape sign begins, and what is written for it; None if it cannot come."""
    is_of_letters = all([table[sign] == "letter" for sign in name])
    written = escape + name
    if len(name) > 1 and not is_of_letters:
        return None
    if "\n" in name[:-1] or written.endswith(" \n"):
        return None
    return (node_behind_name(name, is_of_letters, table), written)


def node_behind_name(name, is_of_letters, table):
    """The node behind the name of a word."""
    last = name[-1]
    if last == "\n":
        return LINE_END
    if is_of_letters and len(name) < MAX_NAME:
        return ("skip", place_in_word(last))
    if is_of_letters or table[last] == "blank":
        return ("skip", place_behind(last))
    return ("mid", place_behind(last))


def signs_that_matter(row, table):
    """The signs of the row, the newline, the space, and one other sign of each sort."""
    # No other sign is like the newline or the space, but all others of one sort do the same where no token tells them.
    found = {"\n": True, " ": True}
    one_of_sort = {}
    for sign in SIGNS[2:]:
        one_of_sort.setdefault(table[sign], sign)
    for sign in one_of_sort.values():
        found[sign] = True
    for token in row:
        if token[0] == "sign":
            found[token[1]] = True
    return list(found)


def escape_sign(table):
    """The sign to begin words with, None without one."""
    # The newline begins no word, and the space cannot stand ahead of the newline: so both come last.
    for sign in SIGNS[2:]:
        if table[sign] == "escape":
            return sign
    if table[" "] == "escape":
        return " "
    return None


def keep_shorter(ways, node, way):
    """Keeps a way to a node, if none is known that is as short; tells whether it does.

    A way is a triple of its length, of the signs that it ends with, and of the way ahead of these, or None.
    """
    if node in ways and ways[node][0] <= way[0]:
        return False
    ways[node] = way
    return True


def longer_way(way, written):
    """A way with some more signs."""
    return (way[0] + len(written), written, way)


class Writer:
    """All steps from node to node that can be of use for a row under a table of sorts."""

    def __init__(self, row, sorts):
        self._table = {sign: sorts[sign] for sign in SIGNS}
        self._escape = escape_sign(self._table)
        self._steps = {}
        signs = signs_that_matter(row, self._table)
        for node in NODES:
            for sign in signs:
                if can_come(node, sign, self._table[sign]):
                    self._add_step(node, sign, self._table[sign])

    def _add_step(self, node, sign, sort):
        """Keeps what comes of a sign at a node, if nothing shorter is known to bring the same."""
        token = token_of(node[0], sign, sort)
        # At the beginning of a line nothing is won by signs of which no token comes.
        if token is None and node[0] == "new":
            return
        steps = self._steps.setdefault((node, token), {})
        behind = node_behind(node, sign, sort)
        written = signs_for(sign, sort)
        if behind not in steps or len(written) < len(steps[behind]):
            steps[behind] = written

    def ways_behind(self, ways, token):
        """The ways that go on from some ways with a token."""
        found = {}
        for node, way in ways.items():
            for behind, written in self._steps.get((node, token), {}).items():
                keep_shorter(found, behind, longer_way(way, written))
        if token[0] == "word" and self._escape is not None:
            self._add_word(found, ways, token[1])
        self._go_on(found)
        return found

    def _add_word(self, found, ways, name):
        """Adds the ways that go on from some ways with an escape sign and a name."""
        step = word_step(name, self._table, self._escape)
        if step is None:
            return
        behind, written = step
        for way in ways.values():
            keep_shorter(found, behind, longer_way(way, written))

    def _go_on(self, ways):
        """Adds the ways that go on without a token."""
        waiting = list(ways)
        while waiting:
            node = waiting.pop()
            way = ways[node]
            for behind, written in self._steps.get((node, None), {}).items():
                if keep_shorter(ways, behind, longer_way(way, written)):
                    waiting.append(behind)


def ways_along(row, sorts):
    """How many tokens of the row a text can begin with, and the shortest ways behind these."""
    writer = Writer(row, sorts)
    ways = {BEGIN: (0, "", None)}
    for index, token in enumerate(row):
        further = writer.ways_behind(ways, token)
        if not further:
            return (index, ways)
        ways = further
    return (len(row), ways)


def signs_of_way(way):
    """All signs of a way."""
    parts = []
    while way is not None:
        parts.append(way[1])
        way = way[2]
    return "".join(parts[::-1])


def shortest_text(row, sorts):
    """A text of the fewest signs that has just the tokens of the row, None if there is none."""
    many, ways = ways_along(row, sorts)
    if many < len(row):
        return None
    texts = []
    if BEGIN in ways:
        texts.append(signs_of_way(ways[BEGIN]))
    if LINE_END in ways:
        # Behind a last line that is not empty the newline is read even if it is not there.
        texts.append(signs_of_way(ways[LINE_END])[:-1])
    return min(texts, key=len, default=None)
