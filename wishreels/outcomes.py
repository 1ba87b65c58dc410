"""Outcomes: takings in which each router has the most wished of its open ways."""

from wishreels.kinds import replaced
from wishreels.takings import choices, first_that_cannot_stay, is_taking, no_items, refuse_more_takings

MOST_TAKINGS = 20000


def is_outcome(wishes, thing):
    """Whether a thing is an outcome."""
    return is_taking(wishes, thing) and first_that_cannot_stay(wishes, thing) is None


def outcomes(wishes):
    """The ascending list of all outcomes."""
    refuse_more_takings(wishes, MOST_TAKINGS)
    rows = [no_items(wishes)]
    for router in range(1, wishes.size):
        # Rows that are ascending stay so, since each is followed up in ascending order.
        rows = [longer for row in rows for longer in followed_up(wishes, row, router)]
    return rows


def followed_up(wishes, items, router):
    """The ascending list of the rows in which the router has an item, too, and none is shown wrong."""
    rows = [replaced(items, router, item) for item in sorted(choices(wishes, router))]
    return [row for row in rows if first_that_cannot_stay(wishes, row) is None]
