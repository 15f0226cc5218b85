"""All errors of the program [0.16]."""


class PressError(ValueError):
    """What all errors but those of look-ups and limits are derived from."""


class InvalidLength(PressError):
    """A value is no length."""


class InvalidGlue(PressError):
    """A value is no glue."""


class InvalidSort(PressError):
    """A value is no sign, no sort, or no table of sorts."""


class InvalidToken(PressError):
    """A value is no token."""


class InvalidRow(PressError):
    """A value is no row."""


class InvalidMacro(PressError):
    """A value is no macro."""


class BadUse(PressError):
    """A macro is not used as it is made to be; `number` tells the token."""

    def __init__(self, number):
        self.number = number


class Unfinished(PressError):
    """A row ends before a macro is matched."""


class Fault(PressError):
    """Something cannot be read or done; `word` tells what."""

    def __init__(self, word):
        self.word = word


class InvalidScope(PressError):
    """A value is no scope."""


class InvalidFont(PressError):
    """A value is no font."""


class InvalidPatterns(PressError):
    """A value is no list of hyphen patterns."""


class InvalidItem(PressError):
    """A value is no item, or no tuple of items of the kind that is asked for."""


class InvalidBox(PressError):
    """A value is no box."""


class InvalidRules(PressError):
    """A value is no set of rules, or no style."""


class InvalidWay(PressError):
    """A value is no way."""


class InvalidPaper(PressError):
    """A value is no paper."""


class InvalidPage(PressError):
    """A value is no page, or no style of pages."""


class InvalidDocument(PressError):
    """A value is no document, or no lines of one."""


class InvalidOperation(PressError):
    """What is asked for cannot be done."""


class ParseError(PressError):
    """A text is not of the form that is asked for; `number` tells where."""

    def __init__(self, number):
        self.number = number


class UnknownName(KeyError):
    """The name `asked` is not there."""

    def __init__(self, asked):
        self.asked = asked


class InvalidNumber(IndexError):
    """The number `value` is none that can stand there."""

    def __init__(self, value):
        self.value = value


class TooMany(OverflowError):
    """There would be more than `limit`."""

    def __init__(self, limit):
        self.limit = limit
