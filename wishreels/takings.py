"""Takings: an item for each router, which is one of its let ways or ()."""

from wishreels.errors import TooMany
from wishreels.kinds import is_integer_tuple, is_tuple_of

GOAL_WAY = (0,)


def choices(wishes, router):
    """The list of the items that a router may have: its ways in order, then (); the goal has its way."""
    if router == 0:
        return [GOAL_WAY]
    return list(wishes.ways(router)) + [()]


def is_taking(wishes, thing):
    """Whether a thing is a taking."""
    if not is_tuple_of(wishes.size, thing):
        return False
    return all([is_choice(wishes, router, item) for router, item in enumerate(thing)])


def is_choice(wishes, router, thing):
    """Whether a thing is an item that a router may have."""
    return is_integer_tuple(thing) and thing in choices(wishes, router)


def refuse_more_takings(wishes, most):
    """Raise TooMany if the wishes have more takings than most."""
    many = 1
    for router in range(wishes.size):
        many *= len(choices(wishes, router))
    if many > most:
        raise TooMany(most)


def no_items(wishes):
    """The row of items in which the goal alone has its own; None stands for an item that lacks."""
    return (GOAL_WAY,) + (None,) * (wishes.size - 1)


def cannot_stay(wishes, items, router):
    """Whether a router but the goal has an item that it has in no outcome with these items.

    Other items may lack; where none lacks and no router is so, the items are an outcome.
    """
    own = items[router]
    if own is None:
        return False
    if own != () and items[own[1]] is not None and items[own[1]] != own[1:]:
        return True
    for way in wishes.ways(router):
        if way == own:
            return False
        if items[way[1]] == way[1:]:
            return True
    return False


def first_that_cannot_stay(wishes, items):
    """The least router that cannot keep its item, or None."""
    for router in range(1, wishes.size):
        if cannot_stay(wishes, items, router):
            return router
    return None
