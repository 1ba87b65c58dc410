"""Areas: lines lie in areas, and ways may leave and enter these by the area 0 alone."""

from wishreels.costs import at_goal, costs_in, distances, lesser, lines_with_costs, spread, way_cost, way_in
from wishreels.errors import BadAreas, BadLine
from wishreels.kinds import is_between, is_router, is_tuple_of, refuse_no_router
from wishreels.wishes import hops

LAST_AREA = 5
# The area that lies between all others.
MIDST = 0


class Areas:
    """Costs and the areas in which their routers stand. Areas never change."""

    def __init__(self, costs, areas):
        refuse_wrong_areas(costs.size, areas)
        for a, b, _ in lines_with_costs(costs):
            if len(common(areas[a], areas[b])) != 1:
                raise BadLine(a, b)
        self.costs = costs
        self._places = areas

    def areas(self, router):
        """The tuple of the areas in which a router stands."""
        refuse_no_router(self.costs.size, router)
        return self._places[router]


def refuse_wrong_areas(size, areas):
    """Raise BadAreas unless these are areas for so many routers."""
    if not is_tuple_of(size, areas):
        raise BadAreas(-1)
    for router, item in enumerate(areas):
        if not is_area_tuple(item):
            raise BadAreas(router)


def is_area_tuple(thing):
    """Whether a thing is an ascending tuple of one or more unlike areas."""
    if not isinstance(thing, tuple) or not all([is_between(0, LAST_AREA, item) for item in thing]):
        return False
    return len(thing) > 0 and list(thing) == sorted(set(thing))


def common(one, other):
    """The list of the areas that stand in both tuples."""
    return [area for area in one if area in other]


def area_of(areas, a, b):
    """The area in which the line from a to b lies."""
    return common(areas.areas(a), areas.areas(b))[0]


def lines_in(areas, area):
    """The list of the triples (a, b, cost) of the lines that lie in an area."""
    return [line for line in lines_with_costs(areas.costs) if area_of(areas, line[0], line[1]) == area]


def area_row(areas, goal):
    """For each router the pair (cost, way) of a cheapest allowed row of lines to the goal, or None."""
    last = spread_in_one(areas, at_goal(areas.costs.size, goal))
    return spread_in_one(areas, spread(lines_in(areas, MIDST), last))


def spread_in_one(areas, row):
    """A row that goes on from another one along the lines of some one area."""
    best = row
    for area in range(LAST_AREA + 1):
        best = [lesser(one, other) for one, other in zip(best, spread(lines_in(areas, area), row))]
    return best


def area_distances(areas, goal):
    """The tuple of the least costs of allowed rows of lines from each router to the goal."""
    refuse_no_router(areas.costs.size, goal)
    return costs_in(area_row(areas, goal))


def area_way(areas, start, goal):
    """The tuple of the routers of a cheapest allowed row of lines, or None."""
    refuse_no_router(areas.costs.size, start)
    refuse_no_router(areas.costs.size, goal)
    return way_in(area_row(areas, goal), start)


def is_area_way(areas, start, goal, thing):
    """Whether a thing is the tuple of the routers of a cheapest allowed row of lines."""
    costs = areas.costs
    if not isinstance(thing, tuple) or not all([is_router(costs.size, item) for item in thing]):
        return False
    if len(thing) == 0 or thing[0] != start or thing[-1] != goal:
        return False
    if any([costs.cost(a, b) is None for a, b in hops(thing)]):
        return False
    if not is_allowed([area_of(areas, a, b) for a, b in hops(thing)]):
        return False
    return way_cost(costs, thing) == area_distances(areas, goal)[start]


def is_allowed(row):
    """Whether lines in a row of areas are allowed: some one area, then the area 0, then some one area."""
    rest = behind_run(behind_run(row, row[:1]), [MIDST])
    return behind_run(rest, rest[:1]) == []


def behind_run(row, areas):
    """What is left of a row of areas behind all of these areas at its begin."""
    for place, area in enumerate(row):
        if area not in areas:
            return row[place:]
    return []


def detours(areas):
    """The ascending list of the pairs that are joined by a way, but by no cheapest one that is allowed."""
    size = areas.costs.size
    far = [distances(areas.costs, goal) for goal in range(size)]
    allowed = [area_distances(areas, goal) for goal in range(size)]
    pairs = [(start, goal) for start in range(size) for goal in range(size)]
    return [(start, goal) for start, goal in pairs if allowed[goal][start] != far[goal][start]]
