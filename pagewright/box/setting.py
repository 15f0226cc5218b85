"""How the glue of a box is set [10.4] [10.5], and how ugly this is."""

from pagewright.base.integers import sums_of
from pagewright.box.items import MAX_PENALTY

TOO_FULL = 1000000


def badness_of(wanted, room):
    """As `badness`, for integers of any size."""
    size = abs(wanted)
    if size == 0:
        return 0
    if room == 0:
        return MAX_PENALTY
    return min(MAX_PENALTY, 100 * size ** 3 // room ** 3)


def amounts_of(items, wanted):
    """The list of the pairs of an amount and an order by which the items can become greater, or less."""
    amounts = []
    for item in items:
        if item[0] != "glue":
            amounts.append((0, 0))
        elif wanted > 0:
            amounts.append((item[1].stretch, item[1].stretch_order))
        else:
            amounts.append((item[1].shrink, item[1].shrink_order))
    return amounts


def rooms_of(amounts):
    """The list of the sums of the amounts, by orders."""
    return [sum([amount for amount, own in amounts if own == order]) for order in (0, 1, 2, 3)]


def highest_order(rooms):
    """The highest order that has a room above 0, 0 without one."""
    return max([0] + [order for order in (1, 2, 3) if rooms[order] > 0])


def set_amount(wanted, order, room):
    """By how much all glue together becomes greater, or less, without its sign."""
    if room == 0:
        return 0
    if wanted < 0 and order == 0:
        return min(-wanted, room)
    return abs(wanted)


def reached_amount(wanted, order, room):
    """By how much all glue together becomes greater [10.5]."""
    if wanted < 0:
        return -set_amount(wanted, order, room)
    return set_amount(wanted, order, room)


def excess_of(wanted, rooms):
    """By how much a box is too full, below 0 if it lacks something, if so much is wanted of such rooms."""
    order = highest_order(rooms)
    return reached_amount(wanted, order, rooms[order]) - wanted


def ugliness_of(wanted, rooms):
    """The ugliness of a box, if so much is wanted of such rooms."""
    if excess_of(wanted, rooms) > 0:
        return TOO_FULL
    order = highest_order(rooms)
    if order > 0 and wanted != 0:
        return 0
    return badness_of(wanted, rooms[order])


class Setting:
    """How the glue among some items is set if so much is wanted. It never changes."""

    def __init__(self, items, wanted):
        amounts = amounts_of(items, wanted)
        self._wanted = wanted
        self._rooms = rooms_of(amounts)
        order = highest_order(self._rooms)
        reached = reached_amount(wanted, order, self._rooms[order])
        # That of the glue that is set, None if nothing is set.
        self.glue_order = None
        if reached != 0:
            self.glue_order = order
        # By how much each item becomes greater.
        self.increases = changes_for(amounts, order, reached)

    def beyond(self):
        """By how much the box is too full, below 0 if it lacks something."""
        return excess_of(self._wanted, self._rooms)

    def how_ugly(self):
        """The ugliness of the box."""
        return ugliness_of(self._wanted, self._rooms)


def changes_for(amounts, order, reached):
    """The list of by how much each item becomes greater, if all together become so by what is to be reached."""
    if reached == 0:
        return [0] * len(amounts)
    ends = sums_of([amount if own == order else 0 for amount, own in amounts])
    size = abs(reached)
    told = [(2 * size * end + ends[-1]) // (2 * ends[-1]) for end in ends]
    return [(behind - ahead) * (reached // size) for ahead, behind in zip(told, told[1:])]
