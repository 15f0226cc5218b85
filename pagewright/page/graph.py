"""The nodes of a closed row, and the pages between them [15.1] to [15.3]."""

from pagewright.errors import TooMany
from pagewright.base.integers import is_int
from pagewright.page.making import made_page
from pagewright.page.sheets import Column, Sheet, closing_items

NO_COST = (0, 0)


def added(one, other):
    """The sum of two costs."""
    return (one[0] + other[0], one[1] + other[1])


def is_node_like(value):
    """Whether the value is a pair of an integer and of a pair of integers, as nodes and steps are."""
    if not isinstance(value, tuple) or len(value) != 2 or not is_int(value[0]):
        return False
    cut = value[1]
    return isinstance(cut, tuple) and len(cut) == 2 and is_int(cut[0]) and is_int(cut[1])


class Graph:
    """All nodes of a row of items, and the pages that lead from node to node."""

    def __init__(self, items, style):
        self._style = style
        self._column = Column([])
        is_closed = any([item[0] in ("box", "rule", "note") for item in items])
        if is_closed:
            items = items + closing_items()
        for item in items:
            self._column.put(item)
        self._end = len(items)
        self.first_node = (0, (0, 0))
        self.last_node = self.first_node
        if is_closed:
            self.last_node = (self._end, (len(self._column.queue.all_notes), 0))
            if not self._column.has_solid_behind(0):
                self.first_node = (self._end, (0, 0))
        self._sheets = {}
        self._costs = {}

    def _sheets_from(self, index):
        """The list of the sheets from an index on, each with its stop and the index of the node to which it leads."""
        if index not in self._sheets:
            column = self._column
            found = []
            if index == self._end:
                found.append((index, index, Sheet(column, self._style, index, index)))
            for stop in column.stops_behind(index):
                target = self._end
                if column.has_solid_behind(stop):
                    target = stop
                found.append((stop, target, Sheet(column, self._style, column.first_solid(index), stop)))
            self._sheets[index] = found
        return self._sheets[index]

    def pages_from(self, node):
        """The list of the pages that lead from a node: pairs of the node to which it leads, and of its stop and end."""
        index, cut = node
        if node == self.last_node:
            return []
        pages = []
        for stop, target, sheet in self._sheets_from(index):
            ends = sheet.ends(cut)
            if index < self._end:
                ends = [cut] + ends
            elif self._column.queue.next_cut(cut) not in ends:
                ends = [self._column.queue.next_cut(cut)] + ends
            pages.extend([((target, end), (stop, end)) for end in ends])
        return pages

    def cost_of(self, node, step):
        """The cost of the page from a node with a stop and an end."""
        if (node, step) not in self._costs:
            stop, end = step
            sheet = [told[2] for told in self._sheets_from(node[0]) if told[0] == stop][0]
            self._costs[(node, step)] = sheet.cost_with(node[1], end)
        return self._costs[(node, step)]

    def all_pages(self, most):
        """The dict from the nodes of the row to the lists of the pages from them; there may be a greatest number."""
        pages = {}
        many = 0
        waiting = [self.first_node]
        while len(waiting) > 0:
            node = waiting.pop()
            if node not in pages:
                pages[node] = self.pages_from(node)
                many += len(pages[node])
                if most is not None and many > most:
                    raise TooMany(most)
                waiting.extend([target for target, _ in pages[node]])
        return {node: pages[node] for node in sorted(pages)}

    def least_worths(self, pages):
        """The dict from the nodes to the least costs of all ways from them to the last node."""
        worths = {self.last_node: NO_COST}
        # All pages lead to greater nodes.
        for node in reversed(list(pages)):
            if node != self.last_node:
                worths[node] = min([added(self.cost_of(node, step), worths[target]) for target, step in pages[node]])
        return {node: worths[node] for node in pages}

    def way_by(self, pages, worths):
        """A way whose cost is the worth of the first node."""
        way = []
        node = self.first_node
        while node != self.last_node:
            for target, step in pages[node]:
                if added(self.cost_of(node, step), worths[target]) == worths[node]:
                    way.append(step)
                    break
            node = target
        return tuple(way)

    def nodes_along(self, value):
        """The list of the nodes along a way, None if the value is none."""
        if not isinstance(value, tuple) or not all([is_node_like(step) for step in value]):
            return None
        nodes = [self.first_node]
        for step in value:
            targets = [target for target, other in self.pages_from(nodes[-1]) if other == step]
            if len(targets) == 0:
                return None
            nodes.append(targets[0])
        if nodes[-1] != self.last_node:
            return None
        return nodes

    def made_pages(self, way, nodes):
        """The list of what is told of the pages of a way."""
        pages = []
        mark = ""
        for node, (stop, end) in zip(nodes, way):
            page = made_page(self._column, self._style, (node[0], stop), (node[1], end), mark)
            pages.append(page)
            mark = page[4][2]
        return pages

    def least_number(self):
        """The least number of pages of a way without excess, None if there is none."""
        number = 0
        known = {self.first_node: True}
        layer = [self.first_node]
        while len(layer) > 0:
            if self.last_node in known:
                return number
            number += 1
            further = {}
            for node in layer:
                for target, step in self.pages_from(node):
                    if target not in known and self.cost_of(node, step)[0] == 0:
                        further[target] = True
            known.update(further)
            layer = list(further)
        return None
