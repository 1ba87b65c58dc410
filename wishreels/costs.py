"""Costs: what it costs to go from router to router, and the cheapest ways."""

from wishreels.errors import BadCosts
from wishreels.growth import first_wishes, grown_ways
from wishreels.kinds import is_between, is_integer, is_router_pair, is_size, is_tuple_of, refuse_no_router
from wishreels.wishes import LEAST_ROUTERS, hops

LEAST_SIZE = 1
MOST_COST = 1000000000


class Costs:
    """Routers and the lines between them with their costs. Costs never change."""

    def __init__(self, size, lines):
        if not is_size(LEAST_SIZE, size):
            raise BadCosts("size")
        if not is_line_dict(size, lines):
            raise BadCosts("lines")
        self.size = size
        self._lines = {pair: lines[pair] for pair in lines}

    def __eq__(self, other):
        return isinstance(other, Costs) and self.size == other.size and self._lines == other._lines

    def cost(self, a, b):
        """What it costs to go from a to b, None if there is no line."""
        refuse_no_router(self.size, a)
        refuse_no_router(self.size, b)
        return self._lines.get((a, b))


def is_line_dict(size, thing):
    """Whether a thing is a dict from pairs of unlike routers to costs."""
    if not isinstance(thing, dict) or not all([is_router_pair(size, pair) and pair[0] != pair[1] for pair in thing]):
        return False
    return all([is_between(1, MOST_COST, cost) for cost in thing.values()])


def lines_with_costs(costs):
    """The ascending list of the triples (a, b, cost) of all lines."""
    pairs = [(a, b) for a in range(costs.size) for b in range(costs.size)]
    return [(a, b, costs.cost(a, b)) for a, b in pairs if costs.cost(a, b) is not None]


def at_goal(size, goal):
    """The row to begin a spread with: nothing but the goal itself is joined to the goal."""
    return [(0, (goal,)) if router == goal else None for router in range(size)]


def spread(lines, row):
    """A row that goes on from another one along lines.

    A row has for each router a pair (cost, way), or None. In the new one each router has the
    least pair of those that it has in the old one, or to which lines lead from there.
    """
    best = list(row)
    # A least way comes to no router twice, so that it has fewer lines than there are routers.
    for _ in row:
        for a, b, cost in lines:
            best[a] = lesser(best[a], longer(a, cost, best[b]))
    return best


def longer(router, cost, item):
    """The item of a row as it is for a router with a line of this cost to its router."""
    return None if item is None else (cost + item[0], (router,) + item[1])


def lesser(one, other):
    """The lesser one of two items of a row; any one is less than None."""
    if one is None or other is None:
        return other if one is None else one
    return min(one, other)


def distances(costs, goal):
    """The tuple of the least costs from each router to the goal, None where one can't come."""
    refuse_no_router(costs.size, goal)
    return costs_in(spread(lines_with_costs(costs), at_goal(costs.size, goal)))


def costs_in(row):
    """The tuple of the costs in a row."""
    return tuple([None if item is None else item[0] for item in row])


def is_distances(costs, goal, thing):
    """Whether a thing is the distances to the goal."""
    if not is_tuple_of(costs.size, thing) or not all([item is None or is_integer(item) for item in thing]):
        return False
    lines = lines_with_costs(costs)
    if thing[goal] != 0 or not all([is_far_enough(thing, line) for line in lines]):
        return False
    tight = {a: True for a, b, cost in lines if None not in (thing[a], thing[b]) and thing[a] == cost + thing[b]}
    return all([router in tight for router in range(costs.size) if router != goal and thing[router] is not None])


def is_far_enough(numbers, line):
    """Whether a line leads to no number by which its own router would have a lesser one."""
    a, b, cost = line
    if numbers[b] is None:
        return True
    return numbers[a] is not None and numbers[a] <= cost + numbers[b]


def cheapest_way(costs, start, goal):
    """The least tuple of the routers of a cheapest way, or None."""
    refuse_no_router(costs.size, start)
    refuse_no_router(costs.size, goal)
    return way_in(spread(lines_with_costs(costs), at_goal(costs.size, goal)), start)


def way_in(row, router):
    """The way that a router has in a row, or None."""
    return None if row[router] is None else row[router][1]


def cost_wishes(costs):
    """The wishes for the goal 0 in which each router wishes the cheapest ways most."""
    if costs.size < LEAST_ROUTERS:
        raise BadCosts("size")
    ways = grown_ways(costs.size, lambda way: costs.cost(way[0], way[1]) is not None)
    return first_wishes(costs.size, [(way_cost(costs, way), way) for way in ways])


def way_cost(costs, way):
    """What it costs to go along a way."""
    return sum([costs.cost(a, b) for a, b in hops(way)])
