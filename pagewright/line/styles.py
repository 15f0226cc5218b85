"""Styles: all that tells how paragraphs are set."""

from pagewright.errors import InvalidOperation, InvalidRules
from pagewright.base.glue import Glue
from pagewright.base.integers import is_between
from pagewright.base.lengths import is_length
from pagewright.box.items import MAX_PENALTY
from pagewright.font.fonts import Font, is_letter_of
from pagewright.font.hyphens import Patterns
from pagewright.line.breaks import Rules

MOST_SHIFTS = 40
MOST_STOP = 100000
NAMES_OF_RULES = ("widths", "tolerance", "line", "hyphen", "unlike", "double", "last", "room", "looseness")
NAMES_OF_PENALTIES = ("between", "behind_first", "ahead_last", "behind_part")
LINE_SKIP = 12 * 65536
NEAR_GAP = 65536
FILL = 65536


def is_glue_of_line(value):
    """Whether the value is a glue with the shrink order 0."""
    return isinstance(value, Glue) and value.shrink_order == 0


def are_stops(value, font):
    """Whether the value is a dict from letters of the font to factors."""
    if not isinstance(value, dict):
        return False
    return all([is_letter_of(font, letter) and is_between(value[letter], 1, MOST_STOP) for letter in value])


def are_shifts(value):
    """Whether the value is a tuple of shifts for lines."""
    if not isinstance(value, tuple) or not 1 <= len(value) <= MOST_SHIFTS:
        return False
    return all([is_length(shift) for shift in value])


def is_style(told):
    """Whether the values of a dict are those of a style, but for those of rules."""
    if not isinstance(told["font"], Font) or not are_stops(told["stops"], told["font"]):
        return False
    if told["patterns"] is not None and not isinstance(told["patterns"], Patterns):
        return False
    if not is_glue_of_line(told["space"]) or not is_glue_of_line(told["fill"]) or not are_shifts(told["shifts"]):
        return False
    if not all([isinstance(told[name], Glue) for name in ("skip", "near_gap")]):
        return False
    if not all([is_length(told[name]) for name in ("indent", "least_gap")]):
        return False
    if not all([is_between(told[name], -MAX_PENALTY, MAX_PENALTY) for name in NAMES_OF_PENALTIES]):
        return False
    return is_between(told["first"], -1, MAX_PENALTY)


def told_or(value, other):
    """The value, or another one for None."""
    if value is None:
        return other
    return value


class Style:
    """All that tells how paragraphs are set. It never changes."""

    def __init__(
        self, font, widths, space, *, patterns=None, stops=None, shifts=(0,), first=100, tolerance=200, room=0,
        line=10, hyphen=50, unlike=10000, double=10000, last=5000, looseness=0, indent=0, fill=None, skip=None,
        near_gap=None, least_gap=0, between=0, behind_first=150, ahead_last=150, behind_part=100,
    ):
        told = {
            "font": font, "widths": widths, "space": space, "patterns": patterns, "stops": told_or(stops, {}),
            "shifts": shifts, "first": first, "tolerance": tolerance, "room": room, "line": line, "hyphen": hyphen,
            "unlike": unlike, "double": double, "last": last, "looseness": looseness, "indent": indent,
            "fill": told_or(fill, Glue(0, stretch=FILL, stretch_order=1)), "skip": told_or(skip, Glue(LINE_SKIP)),
            "near_gap": told_or(near_gap, Glue(NEAR_GAP)), "least_gap": least_gap, "between": between,
            "behind_first": behind_first, "ahead_last": ahead_last, "behind_part": behind_part,
        }
        # What is wrong among the values of rules is refused here.
        rules = {name: told[name] for name in NAMES_OF_RULES}
        self._rules = Rules(**rules)
        if not is_style(told):
            raise InvalidRules("no style")
        told["stops"] = {letter: told["stops"][letter] for letter in sorted(told["stops"])}
        self._told = told

    @property
    def font(self):
        """The font."""
        return self._told["font"]

    @property
    def widths(self):
        """The widths of the lines; the last one is that of all further lines, too."""
        return self._told["widths"]

    @property
    def space(self):
        """The glue between words."""
        return self._told["space"]

    @property
    def patterns(self):
        """The hyphen patterns, or None."""
        return self._told["patterns"]

    @property
    def stops(self):
        """The ascending dict from letters to how much more the space behind them stretches, by 1000."""
        return dict(self._told["stops"])

    @property
    def shifts(self):
        """The shifts of the lines; the last one is that of all further lines, too."""
        return self._told["shifts"]

    @property
    def first(self):
        """The tolerance of the first pass, -1 if there is no such pass."""
        return self._told["first"]

    @property
    def tolerance(self):
        """The tolerance of further passes."""
        return self._told["tolerance"]

    @property
    def room(self):
        """By how much each line can stretch beside its glue, in a third pass."""
        return self._told["room"]

    @property
    def line(self):
        """What each line costs."""
        return self._told["line"]

    @property
    def hyphen(self):
        """The penalty of a line that ends at a part."""
        return self._told["hyphen"]

    @property
    def unlike(self):
        """The demerits of a line that is much tighter or looser than the one ahead."""
        return self._told["unlike"]

    @property
    def double(self):
        """The demerits of a second line that ends at a part."""
        return self._told["double"]

    @property
    def last(self):
        """The demerits of a last line behind one that ends at a part."""
        return self._told["last"]

    @property
    def looseness(self):
        """How many more lines than the best number are wished."""
        return self._told["looseness"]

    @property
    def indent(self):
        """The room ahead of the first line."""
        return self._told["indent"]

    @property
    def fill(self):
        """The glue behind the last line."""
        return self._told["fill"]

    @property
    def skip(self):
        """The glue from line to line."""
        return self._told["skip"]

    @property
    def near_gap(self):
        """The glue between lines that would be too near."""
        return self._told["near_gap"]

    @property
    def least_gap(self):
        """The least room between lines that are not too near."""
        return self._told["least_gap"]

    @property
    def between(self):
        """The penalty between lines."""
        return self._told["between"]

    @property
    def behind_first(self):
        """The penalty behind the first line."""
        return self._told["behind_first"]

    @property
    def ahead_last(self):
        """The penalty ahead of the last line."""
        return self._told["ahead_last"]

    @property
    def behind_part(self):
        """The penalty behind a line that ends at a part."""
        return self._told["behind_part"]

    def told_rules(self):
        """The rules for the lines."""
        return self._rules

    def changed(self, **others):
        """The style with other values for some names."""
        told = dict(self._told)
        for name in others:
            if name not in told:
                raise InvalidOperation("no name of a style")
            told[name] = others[name]
        return Style(**told)

    def __eq__(self, other):
        return isinstance(other, Style) and self._told == other._told


def check_style(style):
    """Raises `InvalidRules` unless the value is a style."""
    if not isinstance(style, Style):
        raise InvalidRules("no style")
