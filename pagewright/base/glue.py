"""Glue: rooms that can stretch and shrink, and their texts."""

from pagewright.errors import InvalidGlue, ParseError
from pagewright.base.integers import is_int
from pagewright.base.lengths import is_length, size_of, text_of_length

ORDERS = ("pt", "fil", "fill", "filll")


def is_order(value):
    """Whether the value is the number of an order."""
    return is_int(value) and 0 <= value < len(ORDERS)


def is_amount(amount, order):
    """Whether both are an amount of a stretch or a shrink, and an order for it."""
    return is_length(amount) and amount >= 0 and is_order(order)


def order_for(amount, order):
    """The order that an amount has: 0 if there is nothing of it [1.3]."""
    if amount == 0:
        return 0
    return order


def joined(one, other):
    """The amount and the order of two such pairs together."""
    if one[1] > other[1]:
        return one
    if one[1] < other[1]:
        return other
    return (one[0] + other[0], one[1])


def natural_units(text):
    """The units that the text of a natural length tells; `ParseError` if it is none."""
    if text.startswith("-"):
        return -size_of(text, 1)
    return size_of(text, 0)


def told_amount(text):
    """The pair of units and order that the text of an amount tells; `ParseError` if it is none."""
    for order in (3, 2, 1):
        if text.endswith(ORDERS[order]):
            # The same number of points tells the amount [1.4].
            return (size_of(text.removesuffix(ORDERS[order]) + ORDERS[0], 0), order)
    return (size_of(text, 0), 0)


def told_parts(text):
    """The natural length and the two pairs of amount and order that a text tells; `ParseError` if it is none."""
    words = text.split(" ")
    natural = natural_units(words[0])
    told = {"plus": (0, 0), "minus": (0, 0)}
    at = 1
    for name in ("plus", "minus"):
        if words[at:at + 1] == [name] and at + 1 < len(words):
            told[name] = told_amount(words[at + 1])
            at += 2
    if at < len(words):
        raise ParseError(None)
    return (natural, told["plus"], told["minus"])


def parts_of(text):
    """What a text of a glue tells, as `told_parts`; `ParseError(None)` for all that is none."""
    if not isinstance(text, str):
        raise ParseError(None)
    try:
        return told_parts(text)
    except ParseError:
        raise ParseError(None) from None


def amount_text(word, amount, order):
    """What stands for an amount in the text of a glue."""
    if amount == 0:
        return ""
    number = text_of_length(amount).removesuffix(ORDERS[0])
    return f" {word} {number}{ORDERS[order]}"


class Glue:
    """A room between items. It never changes."""

    def __init__(self, natural, *, stretch=0, stretch_order=0, shrink=0, shrink_order=0):
        if not is_length(natural) or not is_amount(stretch, stretch_order) or not is_amount(shrink, shrink_order):
            raise InvalidGlue("no glue")
        self._natural = natural
        self._stretch = stretch
        self._stretch_order = order_for(stretch, stretch_order)
        self._shrink = shrink
        self._shrink_order = order_for(shrink, shrink_order)

    @classmethod
    def of_text(cls, text):
        """The glue with a text [1.4]."""
        natural, (stretch, stretch_order), (shrink, shrink_order) = parts_of(text)
        return cls(
            natural, stretch=stretch, stretch_order=stretch_order, shrink=shrink, shrink_order=shrink_order,
        )

    @property
    def natural(self):
        """The natural length."""
        return self._natural

    @property
    def stretch(self):
        """By how much it can stretch."""
        return self._stretch

    @property
    def stretch_order(self):
        """The order of the stretch."""
        return self._stretch_order

    @property
    def shrink(self):
        """By how much it can shrink."""
        return self._shrink

    @property
    def shrink_order(self):
        """The order of the shrink."""
        return self._shrink_order

    @property
    def text(self):
        """The text of the glue [1.4]."""
        plus = amount_text("plus", self._stretch, self._stretch_order)
        minus = amount_text("minus", self._shrink, self._shrink_order)
        return f"{text_of_length(self._natural)}{plus}{minus}"

    def __add__(self, other):
        if not isinstance(other, Glue):
            return NotImplemented
        stretch, stretch_order = joined((self._stretch, self._stretch_order), (other._stretch, other._stretch_order))
        shrink, shrink_order = joined((self._shrink, self._shrink_order), (other._shrink, other._shrink_order))
        return Glue(
            self._natural + other._natural, stretch=stretch, stretch_order=stretch_order,
            shrink=shrink, shrink_order=shrink_order,
        )

    def __mul__(self, other):
        if not isinstance(other, int) or isinstance(other, bool):
            return NotImplemented
        if not is_int(other):
            raise InvalidGlue("an integer of too many digits")
        return Glue(
            self._natural * other, stretch=self._stretch * other, stretch_order=self._stretch_order,
            shrink=self._shrink * other, shrink_order=self._shrink_order,
        )

    def __eq__(self, other):
        if not isinstance(other, Glue):
            return False
        return self._parts() == other._parts()

    def _parts(self):
        """All that tells the glue."""
        return (self._natural, self._stretch, self._stretch_order, self._shrink, self._shrink_order)

    def __str__(self):
        return str(self.text)
