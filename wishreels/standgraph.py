"""The graph of stands: which stand each step leads to, and which stands lead to each other."""

from wishreels.errors import TooMany
from wishreels.works import Works, changed, first_stand

MOST_STANDS = 4000


class StandGraph:
    """Stands, numbered as they were found, with all that steps lead to from the first ones.

    stands: the list of them. moves: for each the list of the numbers of the stands behind
    the steps. came: for each the pair (number of the stand ahead of it, place of the step),
    None for a first one.
    """

    def __init__(self, works, firsts):
        self.works = works
        self.stands = []
        self.moves = []
        self.came = []
        self._numbers = {}
        for stand in firsts:
            self._number(stand, None)
        while len(self.moves) < len(self.stands):
            self.moves.append(self._moves_from(len(self.moves)))

    def _moves_from(self, here):
        """The numbers of the stands behind the steps from one stand."""
        row = []
        for place, step in enumerate(self.works.steps):
            later = changed(self.works, self.stands[here], step)
            row.append(here if later is None else self._number(later, (here, place)))
        return row

    def _number(self, stand, came):
        """The number of a stand, a new one if it was not found till now."""
        if stand not in self._numbers:
            if len(self.stands) == MOST_STANDS:
                raise TooMany(MOST_STANDS)
            self._numbers[stand] = len(self.stands)
            self.stands.append(stand)
            self.came.append(came)
        return self._numbers[stand]


def reached_graph(wishes):
    """The graph of the stands that steps lead to from the begin, which has the number 0."""
    works = Works(wishes)
    return StandGraph(works, [first_stand(works)])


class Knots:
    """A graph of stands with its knots: the greatest groups of stands that lead to each other.

    groups: the list of the knots, each a list of numbers of stands; steps lead from a knot to
    itself and to later ones only. home: for each stand the place of its knot.
    """

    def __init__(self, graph):
        self.graph = graph
        self.groups = knots_of(graph.moves)
        self.home = [0] * len(graph.moves)
        for place, group in enumerate(self.groups):
            for number in group:
                self.home[number] = place

    def stays(self, number, place):
        """Whether the step at a place leads from a stand to one of the same knot."""
        return self.home[self.graph.moves[number][place]] == self.home[number]

    def way_out(self, group):
        """The place of the first step that leads out of a knot from each of its stands, or None."""
        for place in range(len(self.graph.works.steps)):
            if not any([self.stays(number, place) for number in group]):
                return place
        return None

    def first_endless(self):
        """The first knot in which a fair order can stay without coming to rest, or None."""
        for group in self.groups:
            if len(group) > 1 and self.way_out(group) is None:
                return group
        return None


def knots_of(moves):
    """The knots of a graph, the ones ahead first.

    In the order in which a walk in depth leaves the numbers, the last one of all is in a knot
    that no other leads to; what leads to it is this knot. So it goes on with those left.
    """
    sources = turned_round(moves)
    found = {}
    groups = []
    for number in reversed(leaving_order(moves)):
        if number not in found:
            groups.append(sorted(flooded(sources, number, found)))
    return groups


def turned_round(moves):
    """For each number the list of those that lead to it."""
    sources = [[] for _ in moves]
    for number, row in enumerate(moves):
        for later in row:
            sources[later].append(number)
    return sources


def leaving_order(moves):
    """The numbers in the order in which a walk in depth leaves them for good."""
    order = []
    seen = {}
    for first in range(len(moves)):
        trail = [(first, 0)] if first not in seen else []
        seen[first] = True
        while trail:
            number, place = trail.pop()
            if place == len(moves[number]):
                order.append(number)
                continue
            trail.append((number, place + 1))
            later = moves[number][place]
            if later not in seen:
                seen[later] = True
                trail.append((later, 0))
    return order


def flooded(sources, first, found):
    """The numbers that lead to the first one and are not found yet; now they are."""
    found[first] = True
    group = [first]
    looked = 0
    while looked < len(group):
        here = group[looked]
        for number in sources[here]:
            if number not in found:
                found[number] = True
                group.append(number)
        looked += 1
    return group
