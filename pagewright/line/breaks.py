"""Breaks: where the lines of a measured row end, and papers that show what is best."""

from pagewright.errors import InvalidNumber, InvalidOperation, InvalidRow, InvalidRules, InvalidWay
from pagewright.base.integers import is_between
from pagewright.base.lengths import is_length
from pagewright.box.items import is_forced
from pagewright.line.measures import Measures, is_measured_item, tightness_of
from pagewright.line.search import StepSearch, cost_of_way, is_no_paper, is_paper, is_way_of

MAX_ITEMS = 1000
NEVER = 10000
FORCED = -10000
MAX_NODES = 20000

MOST_WIDTHS = 40
MOST_DEMERITS = 1000000
MOST_LOOSENESS = 100


def are_widths(value):
    """Whether the value is a tuple of widths for lines."""
    if not isinstance(value, tuple) or not 1 <= len(value) <= MOST_WIDTHS:
        return False
    return all([is_length(width) and width >= 0 for width in value])


def are_rules(told):
    """Whether the values of a dict are those of rules."""
    if not are_widths(told["widths"]) or not is_length(told["room"]) or told["room"] < 0:
        return False
    if not all([is_between(told[name], 0, NEVER) for name in ("tolerance", "line")]):
        return False
    if not all([is_between(told[name], 0, MOST_DEMERITS) for name in ("unlike", "double", "last")]):
        return False
    return is_between(told["hyphen"], FORCED + 1, NEVER) and is_between(
        told["looseness"], -MOST_LOOSENESS, MOST_LOOSENESS,
    )


class Rules:
    """What tells how good lines are. They never change."""

    def __init__(
        self, widths, *, tolerance=200, line=10, hyphen=50, unlike=10000, double=10000, last=5000, room=0, looseness=0,
    ):
        told = {
            "widths": widths, "tolerance": tolerance, "line": line, "hyphen": hyphen, "unlike": unlike,
            "double": double, "last": last, "room": room, "looseness": looseness,
        }
        if not are_rules(told):
            raise InvalidRules("no rules")
        self._told = told

    @property
    def widths(self):
        """The widths of the lines; the last one is that of all further lines, too."""
        return self._told["widths"]

    @property
    def tolerance(self):
        """The greatest badness of a line that is not wrong."""
        return self._told["tolerance"]

    @property
    def line(self):
        """What each line costs."""
        return self._told["line"]

    @property
    def hyphen(self):
        """The penalty of a line that ends at a part."""
        return self._told["hyphen"]

    @property
    def unlike(self):
        """The demerits of a line that is much tighter or looser than the one ahead."""
        return self._told["unlike"]

    @property
    def double(self):
        """The demerits of a second line that ends at a part."""
        return self._told["double"]

    @property
    def last(self):
        """The demerits of a last line behind one that ends at a part."""
        return self._told["last"]

    @property
    def room(self):
        """By how much each line can stretch beside its glue."""
        return self._told["room"]

    @property
    def looseness(self):
        """How many more lines than the best number are wished."""
        return self._told["looseness"]

    def changed(self, **others):
        """The rules with other values for some names."""
        told = dict(self._told)
        for name in others:
            if name not in told:
                raise InvalidOperation("no name of a rule")
            told[name] = others[name]
        return Rules(**told)

    def __eq__(self, other):
        return isinstance(other, Rules) and self._told == other._told


def is_measured(value):
    """Whether the value is a measured row."""
    if not isinstance(value, tuple) or not 2 <= len(value) <= MAX_ITEMS:
        return False
    return all([is_measured_item(item) for item in value]) and is_forced(value[-1])


def measures_of(row, rules):
    """What is known of a row under rules; raises the error of what is none."""
    if not is_measured(row):
        raise InvalidRow("no measured row")
    if not isinstance(rules, Rules):
        raise InvalidRules("no rules")
    return Measures(row, rules)


def check_boolean(wrong):
    """Raises `InvalidOperation` unless the value is a boolean."""
    if not isinstance(wrong, bool):
        raise InvalidOperation("no boolean")


def check_beginning(measures, place):
    """Raises `InvalidNumber` unless the value is -1 or a place other than the end."""
    if not measures.is_beginning(place):
        raise InvalidNumber(place)


def places_of(row, rules):
    """The ascending tuple of the places of a row."""
    return tuple(measures_of(row, rules).all_places)


def next_places(row, rules, place):
    """The ascending tuple of the next places of a place."""
    measures = measures_of(row, rules)
    check_beginning(measures, place)
    return tuple(measures.next_places(place))


class Line:
    """The line from a place to a next one, with a number. It never changes."""

    def __init__(self, row, rules, place, end, number):
        measures = measures_of(row, rules)
        check_beginning(measures, place)
        if not measures.has_line(place, end):
            raise InvalidNumber(end)
        if not is_between(number, 1, MAX_ITEMS):
            raise InvalidNumber(number)
        self._measures = measures
        self._place = place
        self._end = end
        self._start = measures.start_behind(place)
        self._width = measures.width_for(number)
        self._judged = measures.judged_line(self._start, place, end, self._width)

    @property
    def start(self):
        """The index at which the line starts."""
        return self._start

    @property
    def natural(self):
        """The natural width."""
        return self._measures.natural_width(self._start, self._place, self._end)

    @property
    def width(self):
        """The width that the line is to have."""
        return self._width

    @property
    def rest(self):
        """The width less the natural width."""
        return self._judged[0]

    @property
    def stretches(self):
        """The tuple of the stretches, by orders."""
        return self._measures.stretches_between(self._start, self._end)

    @property
    def shrink(self):
        """The shrink."""
        return self._measures.shrink_between(self._start, self._end)

    @property
    def badness_told(self):
        """The badness."""
        return self._judged[1]

    @property
    def tightness(self):
        """The class."""
        return tightness_of(self._judged[1], self._judged[0])

    @property
    def too_full(self):
        """By how many units the line is too full, or 0."""
        return self._judged[2]

    @property
    def is_wrong(self):
        """Whether the line is wrong."""
        return self._measures.is_wrong_line(self._judged[1], self._judged[2])

    def demerits(self, tightness, is_part):
        """The demerits of the line behind one of a class that ends at a part or not."""
        if not is_between(tightness, 0, 3):
            raise InvalidOperation("no class")
        check_boolean(is_part)
        alone = self._measures.demerits_alone(self._judged[1], self._end, is_part)
        return alone + self._measures.unlike_demerits(self.tightness, tightness)


def is_way(row, rules, value):
    """Whether the value is a way, clean or not."""
    return is_way_of(measures_of(row, rules), value)


def cost_of(row, rules, way):
    """The cost of a way."""
    measures = measures_of(row, rules)
    if not is_way_of(measures, way):
        raise InvalidWay("no way")
    return cost_of_way(measures, way)


def breaks_paper(row, rules, *, wrong=False):
    """A paper of breaks [11.10], None if no way counts."""
    measures = measures_of(row, rules)
    check_boolean(wrong)
    return StepSearch(measures, wrong, MAX_NODES).paper(rules.looseness)


def least_breaks(row, rules, *, wrong=False):
    """A least way [11.8], None if no way counts."""
    paper = breaks_paper(row, rules, wrong=wrong)
    if paper is None:
        return None
    return paper[1]


def is_breaks_paper(row, rules, value, *, wrong=False):
    """Whether the value is a paper of breaks."""
    measures = measures_of(row, rules)
    check_boolean(wrong)
    return is_paper(measures, wrong, rules.looseness, value)


def no_way_paper(row, rules):
    """A paper of no way [11.11], None if some way is clean."""
    search = StepSearch(measures_of(row, rules), False, MAX_NODES)
    if search.paper(rules.looseness) is not None:
        return None
    return tuple(search.all_nodes())


def is_no_way_paper(row, rules, value):
    """Whether the value is a paper of no way."""
    return is_no_paper(measures_of(row, rules), value)
