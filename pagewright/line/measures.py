"""Measured rows: where their lines can end, and how good lines and ways are [11.1] to [11.7]."""

from pagewright.base.glue import Glue
from pagewright.base.integers import is_between, is_int, sums_of
from pagewright.base.lengths import is_length
from pagewright.box.items import MAX_PENALTY, is_forced
from pagewright.box.setting import badness_of

MOST_BADNESS = 10000
STRETCHES = (0, 1, 2, 3)
FINE = 12
LOOSE = 99


def is_measured_item(value):
    """Whether the value is an item of a measured row."""
    if not isinstance(value, tuple) or len(value) < 2:
        return False
    if value[0] == "part":
        return len(value) == 4 and all([is_length(width) for width in value[1:]])
    if len(value) != 2:
        return False
    if value[0] == "box":
        return is_length(value[1])
    if value[0] == "glue":
        return isinstance(value[1], Glue) and value[1].shrink_order == 0
    return value[0] == "penalty" and is_between(value[1], -MAX_PENALTY, MAX_PENALTY)


def stays(item):
    """Whether an item is a box or a part."""
    return item[0] in ("box", "part")


def can_end(row, index, hyphen):
    """Whether a line can end at an index, with a hyphen penalty [11.2]."""
    item = row[index]
    if item[0] == "glue":
        return index > 0 and stays(row[index - 1])
    if item[0] == "penalty":
        return item[1] < MAX_PENALTY
    return item[0] == "part" and hyphen < MAX_PENALTY


def width_in_line(item):
    """What an item within a line adds to its natural width."""
    if item[0] == "box":
        return item[1]
    if item[0] == "glue":
        return item[1].natural
    if item[0] == "part":
        return item[3]
    return 0


def stretch_in_line(item, order):
    """What an item within a line adds to its stretch of an order."""
    if item[0] == "glue" and item[1].stretch_order == order:
        return item[1].stretch
    return 0


def shrink_in_line(item):
    """What an item within a line adds to its shrink."""
    if item[0] == "glue":
        return item[1].shrink
    return 0


def tightness_of(badness, rest):
    """The class of a line [11.5]."""
    if badness <= FINE:
        return 1
    if rest < 0:
        return 0
    if badness <= LOOSE:
        return 2
    return 3


def judged(rest, has_much_stretch, stretch, shrink):
    """The pair of the badness of a line, and of by how many units it is too full."""
    if rest >= 0:
        if has_much_stretch:
            return (0, 0)
        return (badness_of(rest, stretch), 0)
    if -rest <= shrink:
        return (badness_of(rest, shrink), 0)
    return (MOST_BADNESS, -rest - shrink)


class Measures:
    """All that is known of a measured row under some rules."""

    def __init__(self, row, rules):
        self._row = row
        self._rules = rules
        self.end_place = len(row) - 1
        self.all_places = [index for index in range(len(row)) if can_end(row, index, rules.hyphen)]
        self._are_places = {place: True for place in self.all_places}
        self._widths = sums_of([width_in_line(item) for item in row])
        self._stretches = [sums_of([stretch_in_line(item, order) for item in row]) for order in STRETCHES]
        self._shrinks = sums_of([shrink_in_line(item) for item in row])
        self._known_lines = {}

    def is_part_at(self, place):
        """Whether a place, or -1, is a part."""
        return place >= 0 and self._row[place][0] == "part"

    def start_behind(self, place):
        """Where the line begins behind a place other than the end, or behind -1 [11.3]."""
        start = place + 1
        if place == -1 or self.is_part_at(place):
            return start
        while not stays(self._row[start]) and not is_forced(self._row[start]):
            start += 1
        return start

    def next_places(self, place):
        """The list of the places at which a line can end that begins behind a place, or behind -1."""
        start = self.start_behind(place)
        found = []
        for other in self.all_places:
            if other >= start:
                found.append(other)
                if is_forced(self._row[other]):
                    break
        return found

    def has_line(self, place, end):
        """Whether both are a place, or -1, and one of its next places."""
        return self.is_beginning(place) and is_int(end) and end in self.next_places(place)

    def is_beginning(self, value):
        """Whether the value is -1 or a place other than the end."""
        return value != self.end_place and (self.is_place(value) or (is_int(value) and value == -1))

    def is_place(self, value):
        """Whether the value is a place."""
        return is_int(value) and value in self._are_places

    def width_for(self, number):
        """The width of the line with a number, counted from 1."""
        widths = self._rules.widths
        return widths[min(number, len(widths)) - 1]

    def natural_width(self, start, place, end):
        """The natural width of a line from a start to its end, with the place at which the line ahead ends."""
        width = self._widths[end] - self._widths[start]
        if self.is_part_at(place):
            width = width + self._row[place][2]
        if self.is_part_at(end):
            width = width + self._row[end][1]
        return width

    def stretches_between(self, start, end):
        """The tuple of the stretches of a line, by orders."""
        told = [sums[end] - sums[start] for sums in self._stretches]
        return (told[0] + self._rules.room, told[1], told[2], told[3])

    def shrink_between(self, start, end):
        """The shrink of a line."""
        return self._shrinks[end] - self._shrinks[start]

    def judged_line(self, start, place, end, width):
        """The triple of the rest of a line with a width, of its badness, and of by how many units it is too full."""
        rest = width - self.natural_width(start, place, end)
        stretches = self.stretches_between(start, end)
        has_much_stretch = max(stretches[1:]) > 0
        badness, too_full = judged(rest, has_much_stretch, stretches[0], self.shrink_between(start, end))
        return (rest, badness, too_full)

    def is_wrong_line(self, badness, too_full):
        """Whether a line is wrong."""
        return too_full > 0 or badness > self._rules.tolerance

    def penalty_at(self, end):
        """The penalty at the end of a line [11.6]."""
        item = self._row[end]
        if item[0] == "part":
            return self._rules.hyphen
        if item[0] == "glue" or is_forced(item):
            return 0
        return item[1]

    def demerits_alone(self, badness, end, is_behind_part):
        """The demerits of a line, but for those of a class that is unlike the one ahead."""
        penalty = self.penalty_at(end)
        told = (self._rules.line + badness) ** 2
        if penalty >= 0:
            told = told + penalty ** 2
        else:
            told = told - penalty ** 2
        if is_behind_part and self.is_part_at(end):
            told = told + self._rules.double
        if is_behind_part and end == self.end_place:
            told = told + self._rules.last
        return told

    def unlike_demerits(self, tightness, ahead):
        """The demerits of a line of a class for the class of the line ahead."""
        if abs(tightness - ahead) > 1:
            return self._rules.unlike
        return 0

    def lines_from(self, place, width, are_wrong_fine):
        """The list of the lines of a width that begin behind a place, or behind -1; the wrong ones only if asked for.

        Each one is told by its end, its class, whether it ends at a part, 1 or 0 for a wrong one, by how many units it
        is too full, and its demerits but for those of an unlike class.
        """
        key = (place, width, are_wrong_fine)
        if key not in self._known_lines:
            start = self.start_behind(place)
            lines = [self._told_line(start, place, end, width) for end in self.next_places(place)]
            self._known_lines[key] = [line for line in lines if are_wrong_fine or line[3] == 0]
        return self._known_lines[key]

    def _told_line(self, start, place, end, width):
        """A line as `lines_from` tells it."""
        rest, badness, too_full = self.judged_line(start, place, end, width)
        demerits = self.demerits_alone(badness, end, self.is_part_at(place))
        is_wrong = self.is_wrong_line(badness, too_full)
        return (end, tightness_of(badness, rest), self.is_part_at(end), int(is_wrong), too_full, demerits)

    def steps_from(self, node, cost, are_wrong_fine):
        """The list of the pairs of a node to which a step leads from a node, and of the cost behind it [11.9]."""
        place, number, tightness, _ = node
        ahead, full_ahead, demerits_ahead = cost
        unlike = self._rules.unlike
        steps = []
        for end, own, is_part, wrong, too_full, more in self.lines_from(
            place, self.width_for(number + 1), are_wrong_fine,
        ):
            total = demerits_ahead + more
            if abs(own - tightness) > 1:
                total = total + unlike
            steps.append(((end, number + 1, own, is_part), (ahead + wrong, full_ahead + too_full, total)))
        return steps
