"""Growth: all ways that may be, grown from the goal's way on, and wishes of the first few of them."""

from wishreels.takings import GOAL_WAY
from wishreels.wishes import MOST_WAYS, Wishes, ends


def longer_ways(size, rest):
    """The list of the ways with this rest, through routers below a size."""
    return [(router,) + rest for router in range(1, size) if router not in rest]


def grown_ways(size, is_good):
    """The list of all ways that are good, the shorter ones first; what is good has a good rest."""
    found = []
    last = [GOAL_WAY]
    while last:
        last = [way for rest in last for way in longer_ways(size, rest) if is_good(way)]
        found += last
    return found


def first_wishes(size, rows):
    """The wishes made of rows, each of which ends with a way and stands ahead of those that are greater.

    Each router has the ways of its first few rows, but for those that have an end that is not
    among these of its router.
    """
    ways = [row[-1] for row in sorted(rows)]
    firsts = [[way for way in ways if way[0] == router][:MOST_WAYS] for router in range(size)]
    kept = {way: True for few in firsts for way in few}
    return Wishes(tuple([with_all_ends(kept, few) for few in firsts]))


def with_all_ends(kept, ways):
    """The tuple of the ways all ends of which are keys of a dict."""
    return tuple([way for way in ways if all([end in kept for end in ends(way)])])
