"""The search for least ways of a measured row, and papers that show them [11.8] to [11.11]."""

from pagewright.errors import TooMany
from pagewright.base.integers import is_between, is_int

FIRST = (-1, 0, 1, False)
NOTHING = (0, 0, 0)


class StepSearch:
    """All nodes to which steps lead from the first one, with their least costs."""

    def __init__(self, measures, are_wrong_fine, most_nodes):
        self._measures = measures
        self._are_wrong_fine = are_wrong_fine
        self._most_nodes = most_nodes
        self._costs = {FIRST: NOTHING}
        # The node ahead on a way of least cost.
        self._ahead = {FIRST: None}
        self._nodes_at = {-1: [FIRST]}
        for place in [-1] + measures.all_places[:-1]:
            # All steps to a place come from places ahead of it.
            for node in list(self._nodes_at.get(place, ())):
                self._go_on(node)

    def _go_on(self, node):
        """Makes all steps from a node."""
        for further, cost in self._measures.steps_from(node, self._costs[node], self._are_wrong_fine):
            known = self._costs.get(further)
            if known is None:
                self._add(further)
            if known is None or cost < known:
                self._costs[further] = cost
                self._ahead[further] = node

    def _add(self, node):
        """Notes a node that is new."""
        if len(self._costs) == self._most_nodes:
            raise TooMany(self._most_nodes)
        self._nodes_at.setdefault(node[0], []).append(node)

    def all_nodes(self):
        """The ascending list of all nodes."""
        return sorted(self._costs)

    def paper(self, looseness):
        """A paper of breaks for a looseness, None if no way counts."""
        last = self._last_nodes()
        if len(last) == 0:
            return None
        costs = {number: self._costs[last[number]] for number in last}
        number = told_number(costs, looseness)
        values = tuple([(node, self._costs[node]) for node in self.all_nodes()])
        return (self._way_to(last[base_number(costs)]), self._way_to(last[number]), values)

    def _last_nodes(self):
        """The dict from the numbers of lines of ways to the node of least cost at the end."""
        last = {}
        for node in self._nodes_at.get(self._measures.end_place, []):
            number = node[1]
            if number not in last or self._costs[node] < self._costs[last[number]]:
                last[number] = node
        return last

    def _way_to(self, node):
        """The way that leads to a node."""
        places = []
        while node != FIRST:
            places.append(node[0])
            node = self._ahead[node]
        return tuple(places[::-1])


def base_number(costs):
    """The least one of the numbers of lines with the least cost, by a dict of least costs."""
    return min([(cost, number) for number, cost in costs.items()])[1]


def told_number(costs, looseness):
    """The told number of lines [11.8], by a dict from the numbers of lines to their least costs."""
    wished = base_number(costs) + looseness
    return min([(abs(number - wished), number) for number in costs])[1]


def is_way_of(measures, value):
    """Whether the value is a way [11.7]."""
    if not isinstance(value, tuple) or len(value) == 0:
        return False
    place = -1
    for end in value:
        if not measures.has_line(place, end):
            return False
        place = end
    return place == measures.end_place


def cost_of_way(measures, way):
    """The cost of a way [11.7]."""
    total = NOTHING
    node = FIRST
    for end in way:
        steps = [step for step in measures.steps_from(node, total, True) if step[0][0] == end]
        node, total = steps[0]
    return total


def counts(measures, are_wrong_fine, value):
    """Whether the value is a way that counts."""
    return is_way_of(measures, value) and (are_wrong_fine or cost_of_way(measures, value)[0] == 0)


def is_node(measures, value):
    """Whether the value is a node [11.9]."""
    if not isinstance(value, tuple) or len(value) != 4 or not isinstance(value[3], bool):
        return False
    if not all([is_int(number) for number in value[:3]]):
        return False
    if value == FIRST:
        return True
    place, number, tightness, is_part = value
    if not measures.is_place(place) or number < 1 or not is_between(tightness, 0, 3):
        return False
    return measures.is_part_at(place) == is_part


def are_nodes(measures, value):
    """Whether the value is an ascending tuple of nodes, each once, the first node among them."""
    if not isinstance(value, tuple) or not all([is_node(measures, node) for node in value]):
        return False
    return FIRST in value and all([one < other for one, other in zip(value, value[1:])])


def is_cost(value):
    """Whether the value is a triple of integers."""
    return isinstance(value, tuple) and len(value) == 3 and all([is_int(number) for number in value])


def are_values(measures, value):
    """Whether the value is an ascending tuple of pairs of a node and a triple, with each node once."""
    if not isinstance(value, tuple) or not all([isinstance(pair, tuple) and len(pair) == 2 for pair in value]):
        return False
    return are_nodes(measures, tuple([pair[0] for pair in value])) and all([is_cost(pair[1]) for pair in value])


def are_closed(measures, are_wrong_fine, costs):
    """Whether each step from a key of a dict leads to one, with at most the cost of this way to it."""
    for node, cost in costs.items():
        if node[0] != measures.end_place:
            for further, most in measures.steps_from(node, cost, are_wrong_fine):
                if further not in costs or costs[further] > most:
                    return False
    return True


def is_paper(measures, are_wrong_fine, looseness, value):
    """Whether the value is a paper of breaks [11.10]."""
    if not isinstance(value, tuple) or len(value) != 3 or not are_values(measures, value[2]):
        return False
    base, way, pairs = value
    if not counts(measures, are_wrong_fine, base) or not counts(measures, are_wrong_fine, way):
        return False
    values = {node: cost for node, cost in pairs}
    if values[FIRST] != NOTHING or not are_closed(measures, are_wrong_fine, values):
        return False
    last = {}
    for node, cost in pairs:
        if node[0] == measures.end_place:
            last[node[1]] = min(cost, last.get(node[1], cost))
    return are_shown(measures, looseness, base, way, last)


def are_shown(measures, looseness, base, way, last):
    """Whether the least costs at the end, by numbers of lines, show both ways of a paper."""
    least = min(list(last.values()))
    if cost_of_way(measures, base) != least or base_number(last) < len(base):
        return False
    if cost_of_way(measures, way) != last[len(way)]:
        return False
    wished = len(base) + looseness
    return min([(abs(number - wished), number) for number in last]) == (abs(len(way) - wished), len(way))


def is_no_paper(measures, value):
    """Whether the value is a paper of no way [11.11]."""
    if not are_nodes(measures, value) or any([node[0] == measures.end_place for node in value]):
        return False
    known = {node: True for node in value}
    for node in value:
        for further, _ in measures.steps_from(node, NOTHING, False):
            if further not in known:
                return False
    return True
