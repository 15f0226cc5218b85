"""Integers as the conventions want them, and how a fraction is rounded."""

INTEGER_END = 10 ** 60


def is_int(value):
    """Whether the value is an integer of at most sixty digits [0.1]."""
    return isinstance(value, int) and not isinstance(value, bool) and abs(value) < INTEGER_END


def rounded(over, under):
    """The integer nearest to over / under, a half away from 0; `under` is above 0."""
    size = (2 * abs(over) + under) // (2 * under)
    if over < 0:
        return -size
    return size


def is_between(value, least, greatest):
    """Whether the value is an integer from one to another."""
    return is_int(value) and least <= value <= greatest


def sums_of(numbers):
    """The list of the sums of the numbers ahead of each index, and of all."""
    sums = [0]
    total = 0
    for number in numbers:
        total += number
        sums.append(total)
    return sums
