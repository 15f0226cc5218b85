"""The machine that expands tokens, for the expander."""

from pagewright.errors import Fault, TooMany
from pagewright.macro.coming import Coming
from pagewright.macro.commands import SIMPLE
from pagewright.macro.conditions import CLOSING, TESTS, open_condition
from pagewright.macro.macros import Macro, filled_body
from pagewright.macro.matching import Matching
from pagewright.text.rows import MAX_ROW


class Machine(Coming):
    """Coming tokens with all that their expansion needs."""

    def __init__(self, scope, source, limit):
        super().__init__(source)
        self.scope = scope
        self.limit = limit
        self.conditions = ()

    def meaning_of(self, token):
        """The meaning of a token [6.1]."""
        if token[0] == "word" or token[2] == "active":
            return self.scope.value_of("meaning", token)
        return token

    def command_of(self, entry):
        """The word of the command that an entry is, or None."""
        token, is_still = entry
        if is_still:
            return None
        return command_in(self.meaning_of(token))

    def is_expandable(self, entry):
        """Whether an entry is expanded when it is asked for."""
        token, is_still = entry
        if is_still:
            return False
        meaning = self.meaning_of(token)
        if isinstance(meaning, Macro):
            return True
        word = command_in(meaning)
        if word in CLOSING:
            return len(self.conditions) == 0 or self.conditions[-1][1] != "test"
        return word in SIMPLE or word in TESTS

    def ask_entry(self):
        """Asks for an entry; None if no tokens come any more."""
        entry = self.next_entry()
        while entry is not None and self.is_expandable(entry):
            self.expand_first()
            entry = self.next_entry()
        return self.take()

    def must_ask(self):
        """Asks for an entry that must come."""
        entry = self.ask_entry()
        if entry is None:
            raise Fault("ended")
        return entry

    def expand_first(self):
        """Expands the first coming token, which is expandable."""
        meaning = self.meaning_of(self.must_take())
        # The own token has come ahead of the step, so that the first one of a new line counts for this line.
        self._step()
        if isinstance(meaning, Macro):
            self._expand_macro(meaning)
        else:
            self._expand_command(command_in(meaning))

    def _step(self):
        """Counts one more step."""
        if self.many_steps >= self.limit:
            raise TooMany(self.limit)
        self.many_steps += 1

    def _expand_command(self, word):
        """Does what a command does behind its own token."""
        if word in TESTS:
            open_condition(self, word)
        elif word in CLOSING:
            close = CLOSING[word]
            close(self)
        else:
            expand = SIMPLE[word]
            expand(self)

    def _expand_macro(self, macro):
        """Takes what the macro takes, and puts its filled body ahead."""
        matching = Matching(macro, 0)
        row = []
        while not matching.go_on(row):
            token = self._next_of_row(len(row))
            row.append(token)
        self.put_tokens(filled_body(macro, matching.told_arguments()))

    def _next_of_row(self, many):
        """Takes the next token that a macro looks at behind so many ones."""
        if self.next_entry() is None:
            raise Fault("ended")
        if many == MAX_ROW:
            raise TooMany(MAX_ROW)
        return self.must_take()


def command_in(meaning):
    """The word of the command that a meaning tells, or None."""
    if isinstance(meaning, tuple) and meaning[0] == "command":
        return meaning[1]
    return None
