"""Outcome trees: they show that a list of outcomes is whole."""

from wishreels.kinds import is_router, is_tuple_of, replaced
from wishreels.takings import cannot_stay, choices, first_that_cannot_stay, no_items, refuse_more_takings

MOST_TREE_TAKINGS = 3000


def outcome_tree(wishes):
    """An outcome tree of the wishes."""
    refuse_more_takings(wishes, MOST_TREE_TAKINGS)
    return tree_of(wishes, no_items(wishes))


def tree_of(wishes, items):
    """A tree for what is left when these items are had; None stands for one that lacks."""
    wrong = first_that_cannot_stay(wishes, items)
    if wrong is not None:
        return ("no", wrong)
    if None not in items:
        return ("all",)
    router = items.index(None)
    trees = [tree_of(wishes, replaced(items, router, item)) for item in choices(wishes, router)]
    return ("take", router, tuple(trees))


def is_outcome_tree(wishes, thing):
    """Whether a thing is an outcome tree of the wishes."""
    return is_tree(wishes, no_items(wishes), thing)


def is_tree(wishes, items, thing):
    """Whether a thing is a tree where these items are had."""
    if not isinstance(thing, tuple) or len(thing) == 0 or not isinstance(thing[0], str):
        return False
    if thing[0] == "take":
        return is_take(wishes, items, thing)
    if thing[0] == "no":
        return is_no(wishes, items, thing)
    if thing[0] != "all" or len(thing) != 1 or None in items:
        return False
    return first_that_cannot_stay(wishes, items) is None


def is_take(wishes, items, thing):
    """Whether a tuple is a tree that goes on with each item of a router."""
    if len(thing) != 3 or not is_router(wishes.size, thing[1]) or items[thing[1]] is not None:
        return False
    router = thing[1]
    worths = choices(wishes, router)
    if not is_tuple_of(len(worths), thing[2]):
        return False
    for item, tree in zip(worths, thing[2]):
        if not is_tree(wishes, replaced(items, router, item), tree):
            return False
    return True


def is_no(wishes, items, thing):
    """Whether a tuple is a tree that ends with a router that cannot keep its item."""
    if len(thing) != 2 or not is_router(wishes.size, thing[1]) or thing[1] == 0:
        return False
    return cannot_stay(wishes, items, thing[1])
