"""The present style of a press [17.2]."""

from pagewright.errors import Fault
from pagewright.base.glue import Glue

STYLE_ROW = 99
NUMBERS = ((90, "looseness"), (91, "tolerance"), (92, "hyphen"), (93, "between"))
WIDTH = 90
INDENT = 91
SKIP = 90


def letter_tokens(text):
    """The row of letter tokens of a text."""
    return tuple([("sign", letter, "letter") for letter in text])


def present_style(scope, styles):
    """The present style; a fault without one."""
    row = scope.value_of("row", STYLE_ROW)
    name = "".join([token[1] for token in row])
    if row != letter_tokens(name) or name not in styles:
        raise Fault("style")
    return styles[name]


def style_of_paragraph(scope, styles, is_bare):
    """The style of a paragraph that ends now, and that began without its indent or with it."""
    style = present_style(scope, styles)
    changes = {}
    for index, name in NUMBERS:
        if scope.value_of("number", index) != 0:
            changes[name] = scope.value_of("number", index)
    if scope.value_of("length", WIDTH) != 0:
        changes["widths"] = (scope.value_of("length", WIDTH),)
    if scope.value_of("length", INDENT) != 0:
        changes["indent"] = scope.value_of("length", INDENT)
    if scope.value_of("glue", SKIP) != Glue(0):
        changes["skip"] = scope.value_of("glue", SKIP)
    if is_bare:
        changes["indent"] = 0
    return style.changed(**changes)

