"""Conditions: how they are opened, skipped and closed [6.4].

The open conditions of a machine are a tuple of pairs of a word and a branch, the innermost one last. The branch is
`"test"` as long as the test is read.
"""

from pagewright.errors import Fault
from pagewright.macro.quantities import asked_behind_blanks, read_length, read_number


def always_holds(_):
    """The test of `iftrue`."""
    return True


def never_holds(_):
    """The test of `iffalse`."""
    return False


def holds_for_numbers(machine):
    """The test of `ifnumber`."""
    one = read_number(machine)
    relation = read_relation(machine)
    return compares(one, relation, read_number(machine))


def holds_for_lengths(machine):
    """The test of `iflength`."""
    one = read_length(machine)
    relation = read_relation(machine)
    return compares(one, relation, read_length(machine))


def read_relation(machine):
    """Reads the sign of a relation."""
    token, _ = asked_behind_blanks(machine)
    if token[0] != "sign" or token[1] not in "<=>" or token[2] != "other":
        raise Fault("relation")
    return token[1]


def compares(one, relation, other):
    """Whether the relation is between both."""
    if relation == "<":
        return one < other
    if relation == ">":
        return one > other
    return one == other


def holds_for_odd(machine):
    """The test of `ifodd`."""
    return read_number(machine) & 1 == 1


def holds_for_same(machine):
    """The test of `ifsame`."""
    one = machine.must_take()
    other = machine.must_take()
    return machine.meaning_of(one) == machine.meaning_of(other)


def holds_for_signs(machine):
    """The test of `ifsign`."""
    one = asked_token(machine)
    other = asked_token(machine)
    return one[0] == "sign" and other[0] == "sign" and one[1] == other[1]


def asked_token(machine):
    """A token of `ifsign`."""
    entry = machine.must_ask()
    if machine.command_of(entry) in CLOSING:
        raise Fault("extra")
    return entry[0]


def told_case(machine):
    """The number of `ifcase`."""
    return read_number(machine)


TESTS = {
    "iftrue": always_holds,
    "iffalse": never_holds,
    "ifnumber": holds_for_numbers,
    "iflength": holds_for_lengths,
    "ifodd": holds_for_odd,
    "ifsame": holds_for_same,
    "ifsign": holds_for_signs,
    "ifcase": told_case,
}


def open_condition(machine, word):
    """Opens a condition, and skips to the branch that its test tells."""
    index = len(machine.conditions)
    machine.conditions = (*machine.conditions, (word, "test"))
    test = TESTS[word]
    told = test(machine)
    if word == "ifcase":
        many = told
    elif told:
        many = 0
    else:
        many = -1
    if many == 0:
        set_branch(machine, index, "first")
    else:
        skip_to_branch(machine, index, many)


def set_branch(machine, index, branch):
    """Tells the branch of a condition, and keeps those that its test has left open."""
    word, _ = machine.conditions[index]
    machine.conditions = (*machine.conditions[:index], (word, branch), *machine.conditions[index + 1:])


def skip_to_branch(machine, index, many):
    """Skips to the `or` that is the last one of so many, if these are above 0, or to `else` or `fi`."""
    # A condition that the test has left open has its own `fi` ahead.
    word = skip_own(machine, len(machine.conditions) - index - 1)
    while word == "or":
        many -= 1
        if many == 0:
            close_from(machine, index + 1)
            set_branch(machine, index, "first")
            return
        word = skip_own(machine, 0)
    close_from(machine, index + 1)
    if word == "else":
        set_branch(machine, index, "last")
    else:
        close_from(machine, index)


def skip_own(machine, many_inner):
    """Skips to the next `else`, `or` or `fi` that belongs to none of the inner conditions, and tells which."""
    while True:
        word = machine.command_of(machine.must_take_entry())
        if word in TESTS:
            many_inner += 1
        elif word in CLOSING and many_inner == 0:
            return word
        elif word == "fi":
            many_inner -= 1


def close_from(machine, index):
    """Closes all conditions from an index on."""
    machine.conditions = machine.conditions[:index]


def innermost(machine):
    """The word and the branch of the innermost open condition."""
    if len(machine.conditions) == 0:
        raise Fault("extra")
    return machine.conditions[-1]


def end_first_branch(machine):
    """Skips to the `fi` of the innermost condition, and closes it."""
    _, branch = innermost(machine)
    if branch != "first":
        raise Fault("extra")
    while skip_own(machine, 0) != "fi":
        pass
    close_condition(machine)


def end_case(machine):
    """What `or` does."""
    word, _ = innermost(machine)
    if word != "ifcase":
        raise Fault("extra")
    end_first_branch(machine)


def close_condition(machine):
    """What `fi` does."""
    innermost(machine)
    close_from(machine, len(machine.conditions) - 1)


CLOSING = {
    "else": end_first_branch,
    "or": end_case,
    "fi": close_condition,
}
