"""Values of all kinds that can be passed, for tests of what is refused [0.4]."""

from pagewright.base.glue import Glue
from pagewright.errors import InvalidSort
from pagewright.macro.macros import Macro, Match
from pagewright.macro.scopes import Scope
from pagewright.text.reader import Reader
from pagewright.text.sorts import Sorts

DEEP = [[[[[[[["deep"]]]]]]]]

ODD_VALUES = (
    None, True, False, 0, 1, -1, 7, 2 ** 30, 10 ** 60, -10 ** 60, 10 ** 99, -10 ** 99,
    "", "a", "ab", "\n", "letter", "word", "1pt", "no sort", "%", "x" * 4000,
    (), (1,), ("word",), ("word", "par"), ("sign", "a", "letter"), (("word", "par"),), ((), ()), (None, True),
    [], [1], ["word", "par"], [("word", "par")], DEEP, (DEEP,),
    {}, {"a": "letter"}, {1: 2}, {(): []}, {"a": DEEP},
    Sorts(), Sorts({"a": "other"}), InvalidSort("no sort"),
    Glue(0), Reader(), Macro((), ()), Match((), (), 0), Scope(), Scope().state,
)


def odd_values_but(is_fine):
    """The odd values that are not fine."""
    return [value for value in ODD_VALUES if not is_fine(value)]
