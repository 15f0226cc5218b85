"""How the glue of a box is set [10.4] [10.5], and how ugly this is."""

from pagewright.box.items import MAX_PENALTY

TOO_FULL = 1000000


def badness_of(wanted, room):
    """As `badness`, for integers of any size."""
    size = abs(wanted)
    if size == 0:
        return 0
    if room == 0:
        return MAX_PENALTY
    return min(MAX_PENALTY, 100 * size ** 3 // room ** 3)


def amounts_of(items, wanted):
    """The list of the pairs of an amount and an order by which the items can become greater, or less."""
    amounts = []
    for item in items:
        if item[0] != "glue":
            amounts.append((0, 0))
        elif wanted > 0:
            amounts.append((item[1].stretch, item[1].stretch_order))
        else:
            amounts.append((item[1].shrink, item[1].shrink_order))
    return amounts


def order_of(amounts):
    """The highest order that has an amount above 0, 0 without one."""
    return max([order for _, order in amounts], default=0)


def room_of(amounts, order):
    """The sum of the amounts of an order."""
    return sum([amount for amount, own in amounts if own == order])


def set_amount(wanted, order, room):
    """By how much all glue together becomes greater, or less, without its sign."""
    if room == 0:
        return 0
    if wanted < 0 and order == 0:
        return min(-wanted, room)
    return abs(wanted)


class Setting:
    """How the glue among some items is set if so much is wanted. It never changes."""

    def __init__(self, items, wanted):
        amounts = amounts_of(items, wanted)
        order = order_of(amounts)
        room = room_of(amounts, order)
        size = set_amount(wanted, order, room)
        self.wanted = wanted
        # That of the glue that is set, None if nothing is set.
        self.glue_order = None
        if size > 0:
            self.glue_order = order
        self.room = room
        # By how much all glue together becomes greater; the rest of what is wanted is lacking.
        self.reached = size
        if wanted < 0:
            self.reached = -size
        self.changes = changes_for(amounts, order, self.reached)

    def beyond(self):
        """By how much the box is too full, below 0 if it lacks something."""
        return self.reached - self.wanted

    def how_ugly(self):
        """The ugliness of the box."""
        if self.beyond() > 0:
            return TOO_FULL
        if self.glue_order is not None and self.glue_order > 0:
            return 0
        return badness_of(self.wanted, self.room)


def changes_for(amounts, order, reached):
    """The list of by how much each item becomes greater, if all together become so by what is to be reached."""
    if reached == 0:
        return [0] * len(amounts)
    room = room_of(amounts, order)
    size = abs(reached)
    changes = []
    told = 0
    up_to = 0
    for amount, own in amounts:
        if own == order:
            up_to += amount
        now = (2 * size * up_to + room) // (2 * room)
        changes.append((now - told) * (reached // size))
        told = now
    return changes
