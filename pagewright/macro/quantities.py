"""How numbers, lengths and glue are read from the tokens that are asked for [6.5] [6.6].

Here `machine` is the one of `pagewright.macro.machine`, and entries are pairs of a token and whether it is still.
"""

from pagewright.base.glue import Glue
from pagewright.base.lengths import length_of
from pagewright.errors import Fault, InvalidLength, ParseError
from pagewright.text.sorts import BLANK

NUMBER_END = 2 ** 31
MAX_INDEX = 255
DIGITS = "0123456789"
PLUS = ("sign", "+", "other")
MINUS = ("sign", "-", "other")
DOT = ("sign", ".", "other")


def is_blank(entry):
    """Whether there is an entry, and it is a blank token."""
    return entry is not None and entry[0] == BLANK


def digit_of(entry):
    """The digit that an entry is, or None."""
    if entry is None:
        return None
    token, _ = entry
    if token[0] == "sign" and token[2] == "other" and token[1] in DIGITS:
        return token[1]
    return None


def sign_of(entry):
    """The sign of an entry of whatever sort but active, or None."""
    if entry is None:
        return None
    token, _ = entry
    if token[0] == "sign" and token[2] != "active":
        return token[1]
    return None


def asked_behind_blanks(machine):
    """The first entry that is asked for and is no blank token; it must come."""
    entry = machine.must_ask()
    while is_blank(entry):
        entry = machine.must_ask()
    return entry


def asked_behind_signs(machine):
    """Whether an odd number of `-` comes, and the first entry behind blanks and signs, which must come."""
    is_negative = False
    entry = asked_behind_blanks(machine)
    while entry[0] in (PLUS, MINUS):
        if entry[0] == MINUS:
            is_negative = not is_negative
        entry = asked_behind_blanks(machine)
    return (is_negative, entry)


def signed(is_negative, size):
    """The size, or its negative."""
    if is_negative:
        return -size
    return size


def put_back(machine, entry):
    """Puts an entry that does not belong to what is read back as it was, if there is one."""
    if entry is not None:
        machine.put(entry)


def pass_blank(machine):
    """Takes one blank token, if it comes."""
    entry = machine.ask_entry()
    if not is_blank(entry):
        put_back(machine, entry)


def read_index(machine):
    """Reads the number of a register."""
    index = read_number(machine)
    if not 0 <= index <= MAX_INDEX:
        raise Fault("number")
    return index


def read_number(machine):
    """Reads a number [6.5]."""
    is_negative, entry = asked_behind_signs(machine)
    if machine.command_of(entry) == "number":
        return signed(is_negative, machine.scope.value_of("number", read_index(machine)))
    if digit_of(entry) is None:
        raise Fault("number")
    size = 0
    while digit_of(entry) is not None:
        # However many digits come, a number that is too great already needs not become greater.
        size = min(10 * size + int(digit_of(entry)), NUMBER_END)
        entry = machine.ask_entry()
    if not is_blank(entry):
        put_back(machine, entry)
    if size == NUMBER_END:
        raise Fault("number")
    return signed(is_negative, size)


def read_decimal(machine, entry):
    """Reads digits, with at most one dot among them, from an entry on; their text, and the entry behind them."""
    text = ""
    while digit_of(entry) is not None or (entry[0] == DOT and "." not in text):
        text = text + entry[0][1]
        entry = machine.must_ask()
    if text == "":
        raise Fault("number")
    return (text, entry)


def read_signs(machine, signs):
    """Asks for signs that must come."""
    for sign in signs:
        if sign_of(machine.must_ask()) != sign:
            raise Fault("number")


def told_length(text):
    """The length with a text; a fault if there is none."""
    try:
        return length_of(text)
    except (ParseError, InvalidLength):
        raise Fault("number") from None


def read_unit(machine, entry):
    """Reads the name of a unit from an entry on, and one blank token, if it comes."""
    if sign_of(entry) == "u":
        pass_blank(machine)
        return "u"
    if sign_of(entry) != "p":
        raise Fault("number")
    read_signs(machine, "t")
    pass_blank(machine)
    return "pt"


def read_length(machine):
    """Reads a length [6.6]."""
    is_negative, entry = asked_behind_signs(machine)
    if machine.command_of(entry) == "length":
        return signed(is_negative, machine.scope.value_of("length", read_index(machine)))
    text, entry = read_decimal(machine, entry)
    unit = read_unit(machine, entry)
    return signed(is_negative, told_length(text + unit))


def read_order(machine):
    """Reads the rest of the name of a higher order, and one blank token, if it comes; the order."""
    read_signs(machine, "il")
    order = 1
    entry = machine.ask_entry()
    while order < 3 and sign_of(entry) == "l":
        order += 1
        entry = machine.ask_entry()
    if not is_blank(entry):
        put_back(machine, entry)
    return order


def read_amount(machine):
    """Reads the amount of a stretch or a shrink; the pair of it and its order."""
    is_negative, entry = asked_behind_signs(machine)
    order = 0
    if machine.command_of(entry) == "length":
        size = machine.scope.value_of("length", read_index(machine))
    else:
        text, entry = read_decimal(machine, entry)
        if sign_of(entry) == "f":
            order = read_order(machine)
            size = told_length(text + "pt")
        else:
            size = told_length(text + read_unit(machine, entry))
    if signed(is_negative, size) < 0:
        raise Fault("number")
    return (abs(size), order)


def is_word_taken(machine, word):
    """Takes the signs of a word, if they come, behind blank tokens; otherwise all is put back."""
    entries = [machine.ask_entry()]
    while is_blank(entries[-1]):
        entries.append(machine.ask_entry())
    for index, sign in enumerate(word):
        if index > 0:
            entries.append(machine.ask_entry())
        if sign_of(entries[-1]) != sign:
            machine.put_all([entry for entry in entries if entry is not None])
            return False
    return True


def read_glue(machine):
    """Reads glue [6.6]."""
    entry = asked_behind_blanks(machine)
    if machine.command_of(entry) == "glue":
        return machine.scope.value_of("glue", read_index(machine))
    machine.put(entry)
    natural = read_length(machine)
    stretch, stretch_order = (0, 0)
    shrink, shrink_order = (0, 0)
    if is_word_taken(machine, "plus"):
        stretch, stretch_order = read_amount(machine)
    if is_word_taken(machine, "minus"):
        shrink, shrink_order = read_amount(machine)
    return Glue(natural, stretch=stretch, stretch_order=stretch_order, shrink=shrink, shrink_order=shrink_order)
