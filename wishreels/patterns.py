"""Patterns: what a tuple of routers may look like."""

from wishreels.errors import BadPattern, BadRow
from wishreels.kinds import MOST_ROUTERS, is_router

MOST_ITEMS = 8
# The numbers of the items that fit, from 0 to all of them, have a bit each.
SPAN = 9


class Sieve:
    """Patterns beside each other, through which routers are read one by one.

    A way to stand is an integer: it has the bit SPAN * j + k if the first k items of the
    pattern with the index j fit the routers that were read. first: the way to stand ahead of
    all routers.
    """

    def __init__(self, patterns):
        # For each router the bits whose items take it; they lead to the bits behind.
        self.takes = [0] * MOST_ROUTERS
        # The bits whose items need no router; the bits behind these, where they take further ones.
        self.skips = 0
        self.keeps = 0
        # The bit of each pattern at which all its items fit.
        self.goals = []
        for index, pattern in enumerate(patterns):
            for place, item in enumerate(pattern):
                self._put_in(1 << (SPAN * index + place), item)
            self.goals.append(1 << (SPAN * index + len(pattern)))
        self.first = self._skipped(sum([1 << (SPAN * index) for index in range(len(patterns))]))

    def _put_in(self, bit, item):
        """Put an item in behind this bit."""
        if item == "any":
            self.skips |= bit
            self.keeps |= bit << 1
        for router in range(MOST_ROUTERS):
            if item == "one" or item == router:
                self.takes[router] |= bit

    def _skipped(self, stand):
        """The way to stand with what items that need no router add."""
        more = stand | (stand & self.skips) << 1
        while more != stand:
            stand = more
            more = stand | (stand & self.skips) << 1
        return stand

    def read(self, stand, router):
        """The way to stand behind one more router."""
        return self._skipped((stand & self.takes[router]) << 1 | stand & self.keeps)

    def read_all(self, routers):
        """The way to stand behind these routers."""
        stand = self.first
        for router in routers:
            stand = self.read(stand, router)
        return stand

    def fitting(self, stand):
        """The ascending list of the indexes of the patterns that fit what was read."""
        return [index for index, goal in enumerate(self.goals) if stand & goal != 0]


def fits(pattern, routers):
    """Whether a pattern fits a tuple of routers."""
    if not is_pattern(pattern):
        raise BadPattern()
    if not is_router_tuple(routers):
        raise BadRow()
    sieve = Sieve([pattern])
    return len(sieve.fitting(sieve.read_all(routers))) > 0


def is_pattern(thing):
    """Whether a thing is a pattern."""
    return isinstance(thing, tuple) and len(thing) <= MOST_ITEMS and all([is_item(item) for item in thing])


def is_item(thing):
    """Whether a thing is an item of a pattern."""
    if isinstance(thing, str):
        return thing in ("one", "any")
    return is_router(MOST_ROUTERS, thing)


def is_router_tuple(thing):
    """Whether a thing is a tuple of routers from 0 to 7, or ()."""
    return isinstance(thing, tuple) and all([is_router(MOST_ROUTERS, item) for item in thing])
