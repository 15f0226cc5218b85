"""Lengths, and the texts that tell them."""

from pagewright.errors import InvalidLength, InvalidNumber, ParseError
from pagewright.base.integers import is_int, rounded

POINT = 65536
MAX_LENGTH = 2 ** 30 - 1

MOST_UNIT_DIGITS = 10
MOST_POINT_DIGITS = 5
MOST_DECIMALS = 9
BILLION = 10 ** 9


def is_length(value):
    """Whether the value is a length [1.1]."""
    return is_int(value) and -MAX_LENGTH <= value <= MAX_LENGTH


def check_length(value):
    """Raises `InvalidLength` unless the value is a length."""
    if not is_length(value):
        raise InvalidLength("no length")


def length_of(text):
    """The length with a text [1.2]."""
    if not isinstance(text, str):
        raise ParseError(None)
    begin = 0
    if text.startswith("-"):
        begin = 1
    size = size_of(text, begin)
    if begin == 1:
        size = -size
    check_length(size)
    return size


def size_of(text, begin):
    """How many units the number and the name from `begin` on tell."""
    end = end_of_digits(text, begin, MOST_UNIT_DIGITS)
    many = end - begin
    if text[end:end + 1] == "." and many <= MOST_POINT_DIGITS:
        return size_with_decimals(text, begin, end)
    if many == 0:
        raise ParseError(end)
    if text[end:end + 1] == "u" or many > MOST_POINT_DIGITS:
        check_name(text, end, "u")
        return int(text[begin:end])
    check_name(text, end, "pt")
    return int(text[begin:end]) * POINT


def size_with_decimals(text, begin, dot):
    """How many units a number of points with a dot tells."""
    end = end_of_digits(text, dot + 1, MOST_DECIMALS)
    if end == dot + 1:
        raise ParseError(end)
    check_name(text, end, "pt")
    decimals = text[dot + 1:end].ljust(MOST_DECIMALS, "0")
    return rounded(int(text[begin:dot] + decimals) * POINT, BILLION)


def end_of_digits(text, begin, most):
    """The index behind the digits that stand from `begin` on, but behind `most` of them at the latest."""
    end = begin
    while end < len(text) and end < begin + most and "0" <= text[end] <= "9":
        end += 1
    return end


def check_name(text, begin, name):
    """Raises `ParseError` unless just the name stands from `begin` on."""
    for place in range(len(name)):
        if text[begin + place:begin + place + 1] != name[place]:
            raise ParseError(begin + place)
    if len(text) > begin + len(name):
        raise ParseError(begin + len(name))


def text_of_length(length):
    """The shortest and nearest text of the length in points."""
    check_length(length)
    size = abs(length)
    decimals = 0
    power = 1
    number = nearest_number(size, power)
    while rounded(number * POINT, power) != size:
        decimals += 1
        power *= 10
        number = nearest_number(size, power)
    text = decimal_text(number, decimals, power)
    if length < 0:
        return "-" + text
    return text


def nearest_number(size, power):
    """The integer nearest to the size in points times the power, of two the lesser one.

    If it does not lead back to the size, then no other integer does, as none is nearer.
    """
    return (2 * size * power + POINT - 1) // (2 * POINT)


def decimal_text(number, decimals, power):
    """The text of a number of points that is told as an integer; `power` is 10 to the power of the decimals."""
    if decimals == 0:
        return f"{number}pt"
    whole, rest = divmod(number, power)
    behind_dot = str(rest).zfill(decimals)
    return f"{whole}.{behind_dot}pt"


def scaled(length, times, by):
    """The length times `times`, divided by `by`, rounded to the nearest length."""
    check_length(length)
    if not is_int(times):
        raise InvalidNumber(times)
    if not is_int(by) or by < 1:
        raise InvalidNumber(by)
    result = rounded(length * times, by)
    check_length(result)
    return result
