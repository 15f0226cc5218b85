"""Pages at their best: the ways of least cost among all that there are, and papers that show them."""

from pagewright.errors import InvalidPaper, InvalidWay
from pagewright.base.integers import is_int
from pagewright.page.builder import Builder, Page, check_items, check_page_style
from pagewright.page.graph import NO_COST, Graph, added, is_node_like

MOST_ITEMS = 198
MOST_PAGES = 20000


def graph_of(items, style):
    """The nodes and pages of a row; raises the error of what is none."""
    check_items(items, MOST_ITEMS)
    check_page_style(style)
    return Graph(items, style)


def nodes_of_way(graph, way):
    """The list of the nodes along a way; `InvalidWay` if it is none."""
    nodes = graph.nodes_along(way)
    if nodes is None:
        raise InvalidWay("no way")
    return nodes


def best_way(items, style):
    """A way of least cost."""
    graph = graph_of(items, style)
    pages = graph.all_pages(MOST_PAGES)
    return graph.way_by(pages, graph.least_worths(pages))


def is_way(items, style, value):
    """Whether the value is a way."""
    return graph_of(items, style).nodes_along(value) is not None


def way_cost(items, style, way):
    """The cost of a way [15.2]."""
    graph = graph_of(items, style)
    total = NO_COST
    for node, step in zip(nodes_of_way(graph, way), way):
        total = added(total, graph.cost_of(node, step))
    return total


def pages_of(items, style, way):
    """The tuple of the pages of a way, with their marks."""
    graph = graph_of(items, style)
    nodes = nodes_of_way(graph, way)
    return tuple([Page(*told) for told in graph.made_pages(way, nodes)])


def built_way(items, style):
    """The way of the pages that a builder makes of the items."""
    graph_of(items, style)
    builder = Builder(style)
    pages = [page for item in items for page in builder.put(item)]
    return tuple([(page.stop, page.end) for page in [*pages, *builder.finish()]])


def paper_for(items, style):
    """A paper that shows the ways of least cost [15.4]."""
    graph = graph_of(items, style)
    return graph.least_worths(graph.all_pages(MOST_PAGES))


def is_worth(value):
    """Whether the value is a pair of integers."""
    return isinstance(value, tuple) and len(value) == 2 and is_int(value[0]) and is_int(value[1])


def is_paper_of(graph, value):
    """Whether the value is a paper for the nodes and pages."""
    if not isinstance(value, dict) or not all([is_node_like(node) and is_worth(value[node]) for node in value]):
        return False
    pages = graph.all_pages(None)
    if len(value) != len(pages) or not all([node in value for node in pages]) or value[graph.last_node] != NO_COST:
        return False
    for node, steps in pages.items():
        for target, step in steps:
            if added(graph.cost_of(node, step), value[target]) < value[node]:
                return False
    return True


def is_paper(items, style, value):
    """Whether the value is a paper."""
    return is_paper_of(graph_of(items, style), value)


def does_show(items, style, paper, way):
    """Whether a paper shows a way."""
    graph = graph_of(items, style)
    if not is_paper_of(graph, paper):
        raise InvalidPaper("no paper")
    nodes = nodes_of_way(graph, way)
    for node, step, target in zip(nodes, way, nodes[1:]):
        if added(graph.cost_of(node, step), paper[target]) != paper[node]:
            return False
    return True


def least_pages(items, style):
    """The least number of pages of a way without excess, None if there is none."""
    return graph_of(items, style).least_number()
