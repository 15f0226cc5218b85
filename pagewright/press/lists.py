"""Open lists of a press [17.1], and all that a press holds where it is at rest."""

MAIN = "column"
INNER_COLUMN = "inner column"
PARAGRAPH_ROW = "row"
INNER_ROW = "inner row"


class OpenList:
    """An open list. It never changes."""

    def __init__(self, mode, told, members=(), word=""):
        self.mode = mode
        # For a paragraph whether it began without its indent; for a box its size, by how much it is beyond its
        # natural size, and its shift; otherwise None.
        self.told = told
        # The items, but in the main column, and the word at hand.
        self.members = members
        self.word = word

    def is_column(self):
        """Whether the list is a column."""
        return self.mode in (MAIN, INNER_COLUMN)

    def is_empty_list(self):
        """Whether the list has neither items nor a word at hand."""
        return len(self.members) == 0 and self.word == ""

    def with_word(self, word):
        """The list with another word at hand."""
        return OpenList(self.mode, self.told, self.members, word)

    def with_items(self, items):
        """The list with more items, and with no word at hand."""
        return OpenList(self.mode, self.told, (*self.members, *items), "")

    def __eq__(self, other):
        if not isinstance(other, OpenList) or self.mode != other.mode or self.told != other.told:
            return False
        return self.members == other.members and self.word == other.word


class Held:
    """All that a press holds where it is at rest. It never changes, nor does the builder that it has."""

    def __init__(self, scope_state, lists, conditions, builder, last_depth, many_out, last_line, has_stopped):
        self.scope_state = scope_state
        self.lists = lists
        self.conditions = conditions
        self.builder = builder
        # The depth of the last item of the main column, if it is a box, otherwise None.
        self.last_depth = last_depth
        self.many_out = many_out
        # The index of the last line of which a token has come.
        self.last_line = last_line
        self.has_stopped = has_stopped

    def told_state(self):
        """What is compared of it [18.3]."""
        if self.has_stopped:
            return (True,)
        return (
            False, self.scope_state, self.lists, self.conditions, self.builder.rest, self.last_depth, self.many_out,
        )

    def moved_to(self, line, more_out):
        """The same, where so many more pages have gone out, and a token of another line has come last."""
        return Held(
            self.scope_state, self.lists, self.conditions, self.builder, self.last_depth, self.many_out + more_out,
            line, self.has_stopped,
        )
