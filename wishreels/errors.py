"""The errors of the package: each keeps what it was made with, as it was passed."""


class WishError(ValueError):
    """The base of all errors of the package."""


class NoRouter(WishError):
    """The object is no router of the thing that was asked."""

    def __init__(self, router):
        self.router = router


class BadWishes(WishError):
    """The lists are no wishes: -1 for the whole, or the router whose ways are wrong."""

    def __init__(self, router):
        self.router = router


class BadWays(WishError):
    """The object is no row of unlike let ways."""


class BadLinks(WishError):
    """The object is no row of pairs of routers."""


class TooMany(WishError):
    """There are more things to look at than the most that is allowed."""

    def __init__(self, most):
        self.most = most


class BadStand(WishError):
    """The object is no stand of the wishes."""


class BadStep(WishError):
    """The object is no step of the wishes, or no row of steps."""

    def __init__(self, step):
        self.step = step


class BadNumber(WishError):
    """The object is no integer within the limits."""


class BadTaking(WishError):
    """The object is no outcome of the wishes."""


class BadRing(WishError):
    """The object is no ring of the wishes."""


class BadRoles(WishError):
    """A part of the roles is wrong."""

    def __init__(self, part):
        self.part = part


class BadRouters(WishError):
    """The object is no row of unlike routers but the goal."""


class BadPattern(WishError):
    """The object is no pattern."""


class BadRow(WishError):
    """The object is no tuple of routers."""


class BadRule(WishError):
    """A part of the rule is wrong."""

    def __init__(self, part):
        self.part = part


class BadPolicy(WishError):
    """The object is no tuple of rules: -1 for the whole, or the index of the wrong item."""

    def __init__(self, index):
        self.index = index


class BadTags(WishError):
    """The object is no ascending tuple of unlike names."""


class BadNet(WishError):
    """A part of the net is wrong."""

    def __init__(self, part):
        self.part = part


class BadWay(WishError):
    """The object is no way."""


class BadFlood(WishError):
    """A part of the flood is wrong."""

    def __init__(self, part):
        self.part = part


class BadDeed(WishError):
    """The object is no deed of the flood."""


class BadDeeds(WishError):
    """The object is no row of deeds: -1 for the whole, or the index of the wrong deed."""

    def __init__(self, index):
        self.index = index


class BadCosts(WishError):
    """A part of the costs is wrong."""

    def __init__(self, part):
        self.part = part


class BadAreas(WishError):
    """The areas are wrong: -1 for the whole, or the router whose areas are wrong."""

    def __init__(self, router):
        self.router = router


class BadLine(WishError):
    """The two routers of a line have not just one area in common."""

    def __init__(self, a, b):
        self.a = a
        self.b = b


class BadTable(WishError):
    """The entries are wrong: -1 for the whole, or the index of the wrong entry."""

    def __init__(self, index):
        self.index = index


class BadAddress(WishError):
    """The object is no address."""


class BadRanges(WishError):
    """The object is no row of ranges."""


class BadField(WishError):
    """The tables are no field: -1 for the whole, or the router whose table is wrong."""

    def __init__(self, router):
        self.router = router


class BadWord(WishError):
    """The object is none of the words of fates."""


class BadText(WishError):
    """The text is wrong at a line, counted from 1; 0 if it is no string."""

    def __init__(self, line):
        self.line = line


class NoLine(WishError):
    """The object is no line that the desk knows."""


class NoName(WishError):
    """There are no wishes with this name."""

    def __init__(self, name):
        self.name = name


class NothingDone(WishError):
    """There is no line that can be taken back."""
