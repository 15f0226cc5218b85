"""The commands that are expanded and are no conditions [6.3], each behind its own token."""

from pagewright.base.lengths import text_of_length
from pagewright.errors import Fault
from pagewright.macro.quantities import asked_behind_blanks, read_index, read_number
from pagewright.text.sorts import BLANK, MAX_NAME

ESCAPE = "\\"


def shown(text):
    """The list of tokens by which a text is shown."""
    tokens = []
    for sign in text:
        if sign == " ":
            tokens.append(BLANK)
        else:
            tokens.append(("sign", sign, "other"))
    return tokens


def expand_after(machine):
    """Expands the token behind the next one."""
    token = machine.must_take()
    entry = machine.next_entry()
    if entry is not None and machine.is_expandable(entry):
        machine.expand_first()
    machine.put((token, False))


def expand_keep(machine):
    """Puts the next token back as a still one."""
    machine.put((machine.must_take(), True))


def expand_name(machine):
    """Makes a word of the signs up to `endname`."""
    name = ""
    entry = machine.must_ask()
    while machine.command_of(entry) != "endname":
        token, _ = entry
        if token[0] != "sign" or token[2] not in ("blank", "letter", "other") or len(name) == MAX_NAME:
            raise Fault("name")
        name = name + token[1]
        entry = machine.must_ask()
    if name == "":
        raise Fault("name")
    machine.put((("word", name), False))


def expand_show(machine):
    """Shows the next token by its signs."""
    token = machine.must_take()
    if token[0] == "word":
        machine.put_tokens(shown(ESCAPE + token[1]))
    else:
        machine.put_tokens(shown(token[1]))


def expand_digits(machine):
    """Shows a number that is read."""
    machine.put_tokens(shown(str(read_number(machine))))


def expand_value(machine):
    """Puts what the scope has in a register."""
    kind = machine.command_of(asked_behind_blanks(machine))
    if kind not in ("number", "length", "glue", "row"):
        raise Fault("number")
    value = machine.scope.value_of(kind, read_index(machine))
    if kind == "row":
        machine.put_tokens(value, True)
    elif kind == "glue":
        machine.put_tokens(shown(value.text))
    elif kind == "length":
        machine.put_tokens(shown(text_of_length(value)))
    else:
        machine.put_tokens(shown(str(value)))


SIMPLE = {
    "after": expand_after,
    "keep": expand_keep,
    "name": expand_name,
    "show": expand_show,
    "digits": expand_digits,
    "value": expand_value,
}
