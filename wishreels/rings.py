"""Rings: routers each of which wishes a way through the next one's own way more than its own."""

from wishreels.errors import TooMany
from wishreels.kinds import is_integer, is_tuple_of
from wishreels.wishes import ends, is_let_way, let_ways

MOST_RINGS = 2000


def rings(wishes):
    """The ascending list of all rings that begin with their least router."""
    goings = goings_on(wishes)
    found = []
    for own in let_ways(wishes):
        search = RingSearch(goings, own)
        search.gather(own, 0, (), found)
    return sorted(found)


def goings_on(wishes):
    """For each own way the list of the pairs (far, next own way) with which a ring can go on."""
    table = {}
    for own in let_ways(wishes):
        table[own] = [(far, end) for far in wished_more(wishes, own) for end in ends(far)[1:]]
    return table


def wished_more(wishes, own):
    """The tuple of the let ways that its router wishes more than its own way."""
    ways = wishes.ways(own[0])
    return ways[:ways.index(own)]


class RingSearch:
    """The search for the rings whose first item, with the least router, has a given own way.

    The routers behind the first one that stand in a ring already are kept as the bits of an
    integer. It is known which of these lead back, so that no search is in vain.
    """

    def __init__(self, goings, first):
        self.goings = goings
        self.first = first
        self.known = {}

    def gather(self, own, used, ahead, found):
        """Put all rings that go on with an own way behind these items into the list."""
        for far, end in self.goings[own]:
            row = ahead + ((own[0], own, far),)
            if end == self.first:
                found.append(row)
                if len(found) > MOST_RINGS:
                    raise TooMany(MOST_RINGS)
            elif self.leads_back(end, used):
                self.gather(end, used | (1 << end[0]), row, found)

    def leads_back(self, own, used):
        """Whether a ring can go on with an own way: it is the first one, or leads to it."""
        if own == self.first:
            return True
        if own[0] <= self.first[0] or (used >> own[0]) & 1 == 1:
            return False
        if (own, used) not in self.known:
            more = used | (1 << own[0])
            self.known[(own, used)] = any([self.leads_back(end, more) for _, end in self.goings[own]])
        return self.known[(own, used)]


def is_ring(wishes, thing):
    """Whether a thing is a ring, wherever it begins."""
    if not isinstance(thing, tuple) or len(thing) < 2:
        return False
    if not all([is_ring_item(wishes, item) for item in thing]):
        return False
    if len(set([item[0] for item in thing])) != len(thing):
        return False
    return all([thing[place][1] in ends(thing[place - 1][2]) for place in range(len(thing))])


def is_ring_item(wishes, thing):
    """Whether a thing is a tuple of a router, an own way, and a far way that it wishes more."""
    if not is_tuple_of(3, thing) or not is_integer(thing[0]):
        return False
    if not is_let_way(wishes, thing[1]) or not is_let_way(wishes, thing[2]):
        return False
    return thing[0] == thing[1][0] and thing[2] in wished_more(wishes, thing[1])


def ladder(wishes):
    """A ladder of the wishes, or None if there is none."""
    below = {own: [end for _, end in pairs] for own, pairs in goings_on(wishes).items()}
    rungs = {}
    height = 0
    while len(rungs) < len(below):
        ready = [own for own in below if own not in rungs and all([end in rungs for end in below[own]])]
        if not ready:
            return None
        for own in ready:
            rungs[own] = height
        height += 1
    return {own: rungs[own] for own in sorted(list(rungs))}


def is_ladder(wishes, thing):
    """Whether a thing is a ladder."""
    if not isinstance(thing, dict) or not all([is_let_way(wishes, way) for way in thing]):
        return False
    if len(thing) != len(let_ways(wishes)) or not all([is_integer(rung) for rung in thing.values()]):
        return False
    return all([thing[end] < thing[own] for own, pairs in goings_on(wishes).items() for _, end in pairs])
