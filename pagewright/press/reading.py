"""What the deeds of a press take and ask for [17.4] to [17.7].

Each function reads all that a deed needs, and tells it as a tuple: what is to be done, the word for a fault, and the
rest. Nothing is done here, so a deed can be read anew when more tokens have come.
"""

from pagewright.errors import Fault
from pagewright.macro.expander import expanded
from pagewright.macro.machine import command_in
from pagewright.macro.quantities import asked_behind_blanks, is_blank, read_glue, read_length, read_number, sign_of
from pagewright.text.rows import MAX_ROW, change_of_depth

EQUALS = ("sign", "=", "other")
BOX_WORDS = ("rowbox", "columnbox")


def taken_behind_blanks(machine):
    """The first token that is taken and is no blank one; it must come."""
    entry = machine.must_take_entry()
    while is_blank(entry):
        entry = machine.must_take_entry()
    return entry[0]


def pass_equals(machine):
    """Takes one sign `=`, if it comes, behind blank tokens."""
    entry = machine.take()
    while is_blank(entry):
        entry = machine.take()
    if entry is not None and entry[0] != EQUALS:
        machine.put(entry)


def is_signs_taken(machine, signs):
    """Takes some signs, if they come, behind blank tokens, not expanded; otherwise all is put back."""
    entries = [machine.take()]
    while is_blank(entries[-1]):
        entries.append(machine.take())
    for index, sign in enumerate(signs):
        if index > 0:
            entries.append(machine.take())
        if sign_of(entries[-1]) != sign:
            machine.put_all([entry for entry in entries if entry is not None])
            return False
    return True


def asked_command(machine):
    """The word of the command that is asked for behind blank tokens, None if it is no command."""
    return command_in(machine.meaning_of(asked_behind_blanks(machine)[0]))


def rest_of_group(machine, word):
    """The row of the inner tokens of a group whose open token is taken, taken up to its end."""
    tokens = []
    depth = 1
    while depth > 0:
        token = machine.must_take()
        depth += change_of_depth(token)
        tokens.append(token)
        if len(tokens) == MAX_ROW:
            raise Fault(word)
    return tuple(tokens[:-1])


def take_group(machine, word):
    """The row of the inner tokens of a group that is taken."""
    if change_of_depth(taken_behind_blanks(machine)) != 1:
        raise Fault(word)
    return rest_of_group(machine, word)


def take_parameters(machine):
    """The row of the tokens up to the next open token, which is taken, too."""
    tokens = []
    token = taken_behind_blanks(machine)
    while change_of_depth(token) != 1:
        tokens.append(token)
        token = machine.must_take()
    return tuple(tokens)


def take_name(machine, word):
    """A word or a token of the sort `active` that is taken."""
    token = taken_behind_blanks(machine)
    if token[0] != "word" and token[2] != "active":
        raise Fault(word)
    return token


def read_value(machine, word):
    """Reads a value of the kind that is called so."""
    if word == "number":
        return read_number(machine)
    if word == "length":
        return read_length(machine)
    if word == "glue":
        return read_glue(machine)
    return take_group(machine, word)


def read_assignment(machine, word):
    """What `number`, `length`, `glue` and `row` read."""
    index = read_number(machine)
    pass_equals(machine)
    return ("assign", word, word, index, read_value(machine, word))


def read_addition(machine, word):
    """What `add` reads."""
    kind = asked_command(machine)
    if kind not in ("number", "length", "glue"):
        raise Fault(word)
    index = read_number(machine)
    pass_equals(machine)
    return ("add", word, kind, index, read_value(machine, kind))


def read_definition(machine, word):
    """What `define`, `longdefine` and `fulldefine` read."""
    name = take_name(machine, word)
    parameters = take_parameters(machine)
    if word == "fulldefine" and len(parameters) > 0:
        raise Fault(word)
    body = rest_of_group(machine, word)
    if word == "fulldefine":
        body = expanded(machine, body)
    return ("define", word, name, parameters, body)


def read_let(machine, word):
    """What `let` reads."""
    name = take_name(machine, word)
    pass_equals(machine)
    return ("let", word, name, machine.meaning_of(taken_behind_blanks(machine)))


def read_change(machine, word):
    """What `change` reads."""
    sign = take_group(machine, word)
    return ("change", word, sign, take_group(machine, word))


def read_style(machine, word):
    """What `style` reads."""
    return ("style", word, take_group(machine, word))


def read_everywhere(machine, word):
    """What `everywhere` reads: another assignment, which is to be made everywhere."""
    other = asked_command(machine)
    if other not in ASSIGNMENTS:
        raise Fault(word)
    read = ASSIGNMENTS[other]
    return ("everywhere", other, read(machine, other))


def read_behind(machine, word):
    """What `behind` reads."""
    return ("behind", word, taken_behind_blanks(machine))


def read_kern(machine, word):
    """What `kern` reads."""
    return ("item", word, ("kern", read_length(machine)))


def read_skip(machine, word):
    """What `skip` reads."""
    return ("item", word, ("glue", read_glue(machine)))


def read_penalty(machine, word):
    """What `penalty` reads."""
    return ("item", word, ("penalty", read_number(machine)))


def read_rule(machine, word):
    """What `rule` reads."""
    width = read_length(machine)
    height = read_length(machine)
    return ("item", word, ("rule", width, height, read_length(machine)))


def read_mark(machine, word):
    """What `mark` reads."""
    return ("mark", word, expanded(machine, take_group(machine, word)))


def read_part(machine, word):
    """What `part` reads."""
    groups = [take_group(machine, word), take_group(machine, word), take_group(machine, word)]
    return ("part", word, [expanded(machine, group) for group in groups])


def read_nothing(_, word):
    """What deeds tell that read nothing."""
    return (word, word)


def read_box(machine, word):
    """What `rowbox` and `columnbox` read up to their open token, itself included."""
    return read_shifted(machine, word, 0)


def read_shifted(machine, word, shift):
    """As `read_box`, with the shift of the box."""
    to, spread = None, None
    if is_signs_taken(machine, "to"):
        to = read_length(machine)
    elif is_signs_taken(machine, "spread"):
        spread = read_length(machine)
    ask_open(machine, word)
    return ("list", word, to, spread, shift)


def ask_open(machine, word):
    """Asks for an open token."""
    if change_of_depth(asked_behind_blanks(machine)[0]) != 1:
        raise Fault(word)


def read_note(machine, word):
    """What `note` reads up to its open token, itself included."""
    ask_open(machine, word)
    return ("list", word, None, None, 0)


def read_shift(machine, word):
    """What `shift` reads."""
    shift = read_length(machine)
    other = asked_command(machine)
    if other not in BOX_WORDS:
        raise Fault(word)
    return read_shifted(machine, other, shift)


ASSIGNMENTS = {
    "number": read_assignment,
    "length": read_assignment,
    "glue": read_assignment,
    "row": read_assignment,
    "add": read_addition,
    "define": read_definition,
    "longdefine": read_definition,
    "fulldefine": read_definition,
    "let": read_let,
    "change": read_change,
    "style": read_style,
}
READERS = {
    "everywhere": read_everywhere,
    "behind": read_behind,
    "kern": read_kern,
    "skip": read_skip,
    "penalty": read_penalty,
    "rule": read_rule,
    "mark": read_mark,
    "part": read_part,
    "indent": read_nothing,
    "noindent": read_nothing,
    "par": read_nothing,
    "rowbox": read_box,
    "columnbox": read_box,
    "note": read_note,
    "shift": read_shift,
    "pagebox": read_nothing,
}
SORTS_OF_WORDS = ("letter", "other")


def read_sign(token):
    """The deed of a token whose meaning is a sign token."""
    _, sign, sort = token
    if sort in SORTS_OF_WORDS:
        return ("sign", "word", sign)
    if sort == "blank":
        return ("blank", "word")
    if sort in ("open", "close"):
        return (sort, "group")
    raise Fault("token")


def read_deed(machine):
    """The next deed, None if no tokens come any more."""
    entry = machine.ask_entry()
    if entry is None:
        return None
    meaning = machine.meaning_of(entry[0])
    if isinstance(meaning, tuple) and meaning[0] == "sign":
        return read_sign(meaning)
    word = command_in(meaning)
    if word in ASSIGNMENTS:
        read = ASSIGNMENTS[word]
    elif word in READERS:
        read = READERS[word]
    else:
        raise Fault("token")
    return read(machine, word)
