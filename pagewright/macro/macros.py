"""Macros: how they are told by rows of tokens, matched in a row, and filled."""

from pagewright.errors import InvalidMacro, InvalidNumber, InvalidOperation, TooMany, Unfinished
from pagewright.base.integers import is_int
from pagewright.macro.matching import Matching
from pagewright.text.rows import MAX_ROW, change_of_depth, check_row, is_balanced, is_row
from pagewright.text.sorts import BLANK, is_token

MAX_SLOTS = 9

MAX_PARAMETERS = 200
MAX_BODY = 1000
DIGITS = "123456789"
SLOT_SIGN = ("sign", "#", "slot")


def is_slot(value):
    """Whether the value is a slot [4.1]."""
    if not isinstance(value, tuple) or len(value) != 2 or value[0] != "slot":
        return False
    return is_int(value[1]) and 1 <= value[1] <= MAX_SLOTS


def is_slot_token(token):
    """Whether a token is of the sort `slot`."""
    return token[0] == "sign" and token[2] == "slot"


def is_token_of_parameters(value):
    """Whether the value is a token that a parameter text can have."""
    return is_token(value) and change_of_depth(value) == 0 and not is_slot_token(value)


def many_slots(parts):
    """How many of the parts are slots."""
    return len([part for part in parts if is_slot(part)])


def are_parameters(value):
    """Whether the value is a parameter text [4.1]."""
    if not isinstance(value, tuple) or len(value) > MAX_PARAMETERS:
        return False
    next_slot = 1
    for part in value:
        if is_slot(part):
            if part[1] != next_slot:
                return False
            next_slot += 1
        elif not is_token_of_parameters(part):
            return False
    return True


def is_body(value, most_slots):
    """Whether the value is a body for a parameter text with so many slots."""
    if not isinstance(value, tuple) or len(value) > MAX_BODY:
        return False
    tokens = tuple([part for part in value if not is_slot(part)])
    slots = [part for part in value if is_slot(part)]
    return all([slot[1] <= most_slots for slot in slots]) and is_row(tokens) and is_balanced(tokens)


def parts_between_slots(slots):
    """The tuple of the parts of a parameter text ahead of its first slot, and behind each one up to the next."""
    parts = [()]
    for part in slots:
        if is_slot(part):
            parts.append(())
        else:
            parts[-1] = (*parts[-1], part)
    return tuple(parts)


class Macro:
    """A macro. It never changes."""

    def __init__(self, slots, body, *, is_long=False):
        if not are_parameters(slots) or not is_body(body, many_slots(slots)) or not isinstance(is_long, bool):
            raise InvalidMacro("no macro")
        self._slots = slots
        self._body = body
        self._is_long = is_long
        parts = parts_between_slots(slots)
        self._head = parts[0]
        self._delimiters = parts[1:]

    @property
    def slots(self):
        """The parameter text."""
        return self._slots

    @property
    def body(self):
        """The body."""
        return self._body

    @property
    def is_long(self):
        """Whether arguments can have paragraph words."""
        return self._is_long

    @property
    def head(self):
        """The tokens ahead of the first slot."""
        return self._head

    @property
    def delimiters(self):
        """The tuple of the delimiters of the slots."""
        return self._delimiters

    def __len__(self):
        return len(self._delimiters)

    def __iter__(self):
        return iter(self._delimiters)

    def __eq__(self, other):
        if not isinstance(other, Macro) or self._is_long != other._is_long:
            return False
        return self._slots == other._slots and self._body == other._body

    def __str__(self):
        return f"macro with {len(self._delimiters)} slots, body of {len(self._body)}"


def check_macro(macro):
    """Raises `InvalidMacro` unless the value is a macro."""
    if not isinstance(macro, Macro):
        raise InvalidMacro("no macro")


def told_slot(row, index):
    """The slot that a token of the sort `slot` and the one behind it stand for; `InvalidMacro` if they do not."""
    for number, digit in enumerate(DIGITS, start=1):
        if row[index + 1:index + 2] == (("sign", digit, "other"),):
            return ("slot", number)
    raise InvalidMacro("no slot")


def told_parts(row, are_doubled):
    """The tokens and slots that a row of tokens tells, with or without doubled tokens of the sort `slot`."""
    parts = []
    index = 0
    while index < len(row):
        if not is_slot_token(row[index]):
            parts.append(row[index])
            index += 1
            continue
        if are_doubled and index + 1 < len(row) and is_slot_token(row[index + 1]):
            parts.append(row[index + 1])
        else:
            parts.append(told_slot(row, index))
        index += 2
    return tuple(parts)


def macro_of(parameters, body, *, is_long=False):
    """The macro that two rows of tokens tell."""
    check_row(parameters)
    check_row(body)
    return Macro(told_parts(parameters, False), told_parts(body, True), is_long=is_long)


def row_for(parts):
    """The row of tokens that tells some tokens and slots."""
    row = []
    for part in parts:
        if is_slot(part):
            row.append(SLOT_SIGN)
            row.append(("sign", DIGITS[part[1] - 1], "other"))
        else:
            if is_slot_token(part):
                row.append(SLOT_SIGN)
            row.append(part)
    return tuple(row)


def rows_of(macro):
    """The pair of rows of tokens that tells a macro."""
    check_macro(macro)
    return (row_for(macro.slots), row_for(macro.body))


class Match:
    """What a macro finds in a row: the arguments, how they stand there, and the index behind it."""

    def __init__(self, arguments, seams, stop):
        self.arguments = arguments
        self.seams = seams
        # Kept behind a property, as a page has a property `stop`, and such a name is stored by no class.
        self._stop = stop

    @property
    def stop(self):
        """The index behind it."""
        return self._stop

    def __eq__(self, other):
        if not isinstance(other, Match):
            return False
        return self.arguments == other.arguments and self.seams == other.seams and self._stop == other._stop


def match_macro(macro, row, start):
    """The match of a macro in a row from an index on."""
    check_macro(macro)
    check_row(row)
    if not is_int(start) or not 0 <= start <= len(row):
        raise InvalidNumber(start)
    matching = Matching(macro, start)
    if not matching.go_on(row):
        raise Unfinished("the row ends too early")
    return Match(matching.told_arguments(), matching.told_seams(), matching.index_behind())


def is_pair_of_braces(value):
    """Whether the value is a pair of an open token and a close token."""
    if not isinstance(value, tuple) or len(value) != 2 or not is_token(value[0]) or not is_token(value[1]):
        return False
    return change_of_depth(value[0]) == 1 and change_of_depth(value[1]) == -1


def is_seam(value):
    """Whether the value is a seam [4.4]."""
    if not isinstance(value, tuple) or len(value) != 2 or not is_int(value[0]) or value[0] < 0:
        return False
    return value[1] is None or is_pair_of_braces(value[1])


def fits(match, macro):
    """Whether the value is a match with an argument and a seam for each slot of the macro."""
    if not isinstance(match, Match):
        return False
    for told in (match.arguments, match.seams):
        if not isinstance(told, tuple) or len(told) != len(macro):
            return False
    return all([is_row(row) for row in match.arguments]) and all([is_seam(seam) for seam in match.seams])


def check_number(many):
    """Raises `TooMany` for more tokens than a row can have."""
    if many > MAX_ROW:
        raise TooMany(MAX_ROW)


def put_back(macro, match):
    """The part of the row that was matched."""
    check_macro(macro)
    if not fits(match, macro):
        raise InvalidOperation("no match of this macro")
    # The blanks are counted ahead of their making, as a seam can tell any number of them.
    check_number(sum([seam[0] for seam in match.seams]))
    row = list(macro.head)
    for argument, (many_blanks, braces), delimiter in zip(match.arguments, match.seams, macro.delimiters):
        row.extend([BLANK] * many_blanks)
        if braces is None:
            row.extend(argument)
        else:
            row.extend((braces[0], *argument, braces[1]))
        row.extend(delimiter)
    check_number(len(row))
    return tuple(row)


def filled(macro, arguments):
    """The body of a macro with arguments in the places of its slots."""
    check_macro(macro)
    if not isinstance(arguments, tuple) or len(arguments) != len(macro):
        raise InvalidOperation("not one argument for each slot")
    if not all([is_row(row) and is_balanced(row) for row in arguments]):
        raise InvalidOperation("no balanced row")
    return filled_body(macro, arguments)


def filled_body(macro, arguments):
    """As `filled`, for arguments that are known to be fine."""
    row = []
    for part in macro.body:
        if is_slot(part):
            row.extend(arguments[part[1] - 1])
        else:
            row.append(part)
        check_number(len(row))
    return tuple(row)
