"""Settling: whether all fair orders of steps come to rest."""

from wishreels.errors import BadTaking, TooMany
from wishreels.outcomes import is_outcome
from wishreels.standgraph import MOST_STANDS, Knots, StandGraph, reached_graph
from wishreels.takings import choices
from wishreels.works import Works


def reached(wishes):
    """The number of the stands that steps lead to from the begin."""
    return len(reached_graph(wishes).stands)


def settles(wishes):
    """Whether each fair order from the begin settles."""
    return Knots(reached_graph(wishes)).first_endless() is None


def settles_anywhere(wishes):
    """Whether each fair order from any stand settles."""
    works = Works(wishes)
    return Knots(StandGraph(works, all_stands(works))).first_endless() is None


def all_stands(works):
    """The list of all stands, also of those that no steps lead to."""
    takes = [choices(works.wishes, router) for router in range(works.wishes.size)]
    told = [ways + [()] for ways in works.heard]
    many = 1
    for worths in takes + told:
        many *= len(worths)
    if many > MOST_STANDS:
        raise TooMany(MOST_STANDS)
    return [(one, other) for one in all_rows(takes) for other in all_rows(told)]


def all_rows(columns):
    """The list of all tuples that have an item of each column."""
    rows = [()]
    for column in columns:
        rows = [row + (item,) for row in rows for item in column]
    return rows


def comes(wishes, taking):
    """A tuple of steps from the begin to the stand at rest with this outcome.

    The routers choose one behind the other, the shorter ways first. As each was told only the
    way that it shall take, and takes one that it wishes more than a way to the goal at once,
    it chooses right; then all is told.
    """
    if not is_outcome(wishes, taking):
        raise BadTaking()
    row = []
    for way in sorted([way for way in taking[1:] if way != ()], key=len):
        if way[1] != 0:
            row.append(("tell", way[1], way[0]))
        row.append(("choose", way[0]))
    return tuple(row + [("tell", teller, hearer) for teller, hearer in wishes.lines()])
