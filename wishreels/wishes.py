"""Wishes: for each router the ways that it is let to use, the most wished one first."""

from wishreels.errors import BadLinks, BadWays, BadWishes
from wishreels.kinds import is_integer_tuple, is_router, is_router_pair, is_row, is_size, is_way, refuse_no_router

LEAST_ROUTERS = 2
MOST_WAYS = 6


class Wishes:
    """The let ways of all routers; router 0 is the goal. Wishes never change."""

    def __init__(self, lists):
        refuse_wrong_lists(lists)
        self.size = len(lists)
        self._lists = lists

    def __eq__(self, other):
        return isinstance(other, Wishes) and self._lists == other._lists

    def ways(self, router):
        """The tuple of the let ways of a router, () for the goal."""
        refuse_no_router(self.size, router)
        return self._lists[router]

    def lines(self):
        """The ascending list of the pairs (w, v) such that a let way of v goes on by w."""
        return sorted(set([(way[1], way[0]) for way in let_ways(self) if way[1] != 0]))

    def struck(self, ways):
        """The wishes without these ways, and without all that have one of them as an end."""
        if not is_row_of_unlike_ways(self, ways):
            raise BadWays()
        gone = {way: True for way in ways}
        return self._without([way for way in let_ways(self) if any([end in gone for end in ends(way)])])

    def failed(self, links):
        """The wishes without all ways that use one of these links, in either direction."""
        if not is_row(links) or not all([is_router_pair(self.size, link) for link in links]):
            raise BadLinks()
        cut = {link: True for link in links}
        return self._without([way for way in let_ways(self) if any([is_cut(cut, link) for link in hops(way)])])

    def _without(self, lost):
        """The wishes without these ways; with a way all that have it as an end must be lost."""
        gone = {way: True for way in lost}
        return Wishes(tuple([tuple([way for way in item if way not in gone]) for item in self._lists]))


def refuse_wrong_lists(lists):
    """Raise BadWishes unless these are the lists of wishes."""
    if not isinstance(lists, tuple) or not is_size(LEAST_ROUTERS, len(lists)):
        raise BadWishes(-1)
    for router, item in enumerate(lists):
        if not is_way_list(len(lists), router, item):
            raise BadWishes(router)
    for router, item in enumerate(lists):
        if not all([has_let_rest(lists, way) for way in item]):
            raise BadWishes(router)


def is_way_list(size, router, thing):
    """Whether a thing is a tuple of unlike ways of a router, not too many; () for the goal."""
    if not isinstance(thing, tuple) or len(thing) > MOST_WAYS:
        return False
    if router == 0:
        return len(thing) == 0
    return all([is_way(size, router, way) for way in thing]) and len(set(thing)) == len(thing)


def has_let_rest(lists, way):
    """Whether the rest of a way stands in the list of its router, or is the goal's way."""
    return way[1] == 0 or way[1:] in lists[way[1]]


def let_ways(wishes):
    """The list of all let ways of all routers, router by router, each most wished one first."""
    return [way for router in range(wishes.size) for way in wishes.ways(router)]


def is_let_way(wishes, thing):
    """Whether a thing is a let way of some router."""
    if not is_integer_tuple(thing) or len(thing) == 0 or not is_router(wishes.size, thing[0]):
        return False
    return thing in wishes.ways(thing[0])


def is_row_of_unlike_ways(wishes, thing):
    """Whether a thing is a row of unlike let ways."""
    if not is_row(thing) or not all([is_let_way(wishes, way) for way in thing]):
        return False
    return len(set(thing)) == len(thing)


def ends(way):
    """The list of the ends of a way, from the way itself down to the one of two routers."""
    return [way[place:] for place in range(len(way) - 1)]


def hops(way):
    """The list of the pairs of routers that stand beside each other in a way."""
    return [way[place:place + 2] for place in range(len(way) - 1)]


def is_cut(cut, link):
    """Whether a link stands in a dict of links, in either direction."""
    return link in cut or link[::-1] in cut
