"""A plain model of stage 11: lines, costs, all ways there are, and papers, straight from the points."""

from pagewright.base.integers import is_int


def stays(item):
    return item[0] in ("box", "part")


def places(row, rules):
    found = []
    for index, item in enumerate(row):
        if item[0] == "glue" and index > 0 and stays(row[index - 1]):
            found.append(index)
        if item[0] == "penalty" and item[1] < 10000:
            found.append(index)
        if item[0] == "part" and rules.hyphen < 10000:
            found.append(index)
    return tuple(found)


def start(row, place):
    if place == -1 or row[place][0] == "part":
        return place + 1
    return min([index for index in range(place + 1, len(row)) if stays(row[index]) or row[index] == ("penalty", -10000)])


def next_places(row, rules, place):
    found = []
    for other in places(row, rules):
        if other >= start(row, place) and not [one for one in found if row[one] == ("penalty", -10000)]:
            found.append(other)
    return tuple(found)


def line(row, rules, place, end, number):
    """A dict of all that a line tells."""
    items = row[start(row, place):end]
    natural = sum([item[1] if item[0] == "box" else item[1].natural if item[0] == "glue" else item[3] if item[0] == "part" else 0 for item in items])
    if place >= 0 and row[place][0] == "part":
        natural += row[place][2]
    if row[end][0] == "part":
        natural += row[end][1]
    glues = [item[1] for item in items if item[0] == "glue"]
    stretches = tuple([sum([glue.stretch for glue in glues if glue.stretch_order == order]) + (rules.room if order == 0 else 0) for order in range(4)])
    shrink = sum([glue.shrink for glue in glues])
    width = (list(rules.widths) + [rules.widths[-1]] * number)[number - 1]
    rest = width - natural
    too_full = 0
    if rest >= 0:
        badness = 0 if rest == 0 or any(stretches[1:]) else 10000 if stretches[0] == 0 else min(10000, 100 * rest ** 3 // stretches[0] ** 3)
    elif -rest <= shrink:
        badness = min(10000, 100 * (-rest) ** 3 // shrink ** 3)
    else:
        badness, too_full = 10000, -rest - shrink
    tightness = 1 if badness <= 12 else 0 if rest < 0 else 2 if badness <= 99 else 3
    return {"start": start(row, place), "natural": natural, "width": width, "rest": rest, "stretches": stretches, "shrink": shrink,
            "badness_told": badness, "tightness": tightness, "too_full": too_full,
            "is_wrong": too_full > 0 or badness > rules.tolerance}


def demerits(row, rules, end, told, ahead, is_part):
    item = row[end]
    penalty = {"glue": 0, "part": rules.hyphen}.get(item[0], item[1])
    if item == ("penalty", -10000):
        penalty = 0
    total = (rules.line + told["badness_told"]) ** 2 + (penalty ** 2 if penalty >= 0 else -penalty ** 2)
    if abs(told["tightness"] - ahead) > 1:
        total += rules.unlike
    if is_part and item[0] == "part":
        total += rules.double
    if is_part and end == len(row) - 1:
        total += rules.last
    return total


def step(row, rules, node, end):
    """The node to which the line from a node to an end leads, and the cost."""
    place, number, tightness, is_part = node
    told = line(row, rules, place, end, number + 1)
    cost = (int(told["is_wrong"]), told["too_full"], demerits(row, rules, end, told, tightness, is_part))
    return (end, number + 1, told["tightness"], row[end][0] == "part"), cost


def plus(one, other):
    return tuple([first + second for first, second in zip(one, other)])


def cost_of(row, rules, way):
    node, total = (-1, 0, 1, False), (0, 0, 0)
    for end in way:
        node, cost = step(row, rules, node, end)
        total = plus(total, cost)
    return total


def all_ways(row, rules, place=-1):
    if place == len(row) - 1:
        return [()]
    return [(end, *way) for end in next_places(row, rules, place) for way in all_ways(row, rules, end)]


def least_cost(row, rules, wrong):
    """The told number of lines and the least cost of all ways that count and have it, None without any [11.8]."""
    costs = {way: cost_of(row, rules, way) for way in all_ways(row, rules)}
    counting = [way for way in costs if wrong or costs[way][0] == 0]
    if not counting:
        return None
    least = min([costs[way] for way in counting])
    wished = min([len(way) for way in counting if costs[way] == least]) + rules.looseness
    told = min([(abs(len(way) - wished), len(way)) for way in counting])[1]
    return told, min([costs[way] for way in counting if len(way) == told])


def is_node(row, rules, value):
    if not isinstance(value, tuple) or len(value) != 4 or not all([is_int(part) for part in value[:3]]) or value[3] not in (True, False):
        return False
    if not isinstance(value[3], bool):
        return False
    if value == (-1, 0, 1, False):
        return True
    place, number, tightness, is_part = value
    return place in places(row, rules) and number >= 1 and 0 <= tightness <= 3 and is_part == (row[place][0] == "part")


def is_paper(row, rules, value, wrong):
    """[11.10], word for word."""
    if not isinstance(value, tuple) or len(value) != 3 or not isinstance(value[2], tuple):
        return False
    ways = all_ways(row, rules)
    for way in value[:2]:
        if not isinstance(way, tuple) or any([isinstance(place, bool) for place in way]) or way not in ways:
            return False
        if not wrong and cost_of(row, rules, way)[0] > 0:
            return False
    base, way, pairs = value
    for pair in pairs:
        if not isinstance(pair, tuple) or len(pair) != 2 or not is_node(row, rules, pair[0]):
            return False
        if not isinstance(pair[1], tuple) or len(pair[1]) != 3 or not all([is_int(part) for part in pair[1]]):
            return False
    nodes = [pair[0] for pair in pairs]
    if nodes != sorted(set(nodes)):
        return False
    costs = dict(pairs)
    end = len(row) - 1
    if costs.get((-1, 0, 1, False)) != (0, 0, 0):
        return False
    for node in nodes:
        for place in next_places(row, rules, node[0]) if node[0] != end else ():
            target, cost = step(row, rules, node, place)
            if wrong or cost[0] == 0:
                if target not in costs or costs[target] > plus(costs[node], cost):
                    return False
    last = [node for node in nodes if node[0] == end]
    least = min([costs[node] for node in last])
    if cost_of(row, rules, base) != least or any([costs[node] <= least for node in last if node[1] < len(base)]):
        return False
    wished = len(base) + rules.looseness
    if any([(abs(node[1] - wished), node[1]) < (abs(len(way) - wished), len(way)) for node in last]):
        return False
    return cost_of(row, rules, way) == min([costs[node] for node in last if node[1] == len(way)])


def is_no_way(row, rules, value):
    """[11.11], word for word."""
    if not isinstance(value, tuple) or not all([is_node(row, rules, node) for node in value]):
        return False
    if list(value) != sorted(set(value)) or (-1, 0, 1, False) not in value or any([node[0] == len(row) - 1 for node in value]):
        return False
    for node in value:
        for place in next_places(row, rules, node[0]):
            target, cost = step(row, rules, node, place)
            if cost[0] == 0 and target not in value:
                return False
    return True
