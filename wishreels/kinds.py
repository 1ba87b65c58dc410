"""What the general words mean that the whole package uses: integers, rows, routers, ways.

Each function judges any object. Kinds are looked at ahead of worths, since True equals 1,
and since not every object can be looked up in a dict.
"""

from wishreels.errors import NoRouter

MOST_ROUTERS = 8


def is_integer(thing):
    """Whether a thing is an integer and no flag."""
    return isinstance(thing, int) and not isinstance(thing, bool)


def is_between(least, most, thing):
    """Whether a thing is an integer from least to most."""
    return is_integer(thing) and least <= thing <= most


def is_row(thing):
    """Whether a thing is a list or a tuple."""
    return isinstance(thing, (list, tuple))


def is_tuple_of(many, thing):
    """Whether a thing is a tuple of so many items."""
    return isinstance(thing, tuple) and len(thing) == many


def is_integer_tuple(thing):
    """Whether a thing is a tuple of integers, or ()."""
    return isinstance(thing, tuple) and all([is_integer(item) for item in thing])


def is_router(size, thing):
    """Whether a thing is a router of something with this size."""
    return is_between(0, size - 1, thing)


def refuse_no_router(size, thing):
    """Raise NoRouter unless a thing is a router of something with this size."""
    if not is_router(size, thing):
        raise NoRouter(thing)


def is_size(least, thing):
    """Whether a thing is a number of routers, not less than the least."""
    return is_between(least, MOST_ROUTERS, thing)


def is_router_pair(size, thing):
    """Whether a thing is a pair of routers, unlike or not."""
    return is_tuple_of(2, thing) and is_router(size, thing[0]) and is_router(size, thing[1])


def is_row_of_unlike_pairs(size, thing):
    """Whether a thing is a row of pairs of unlike routers."""
    return is_row(thing) and all([is_router_pair(size, pair) and pair[0] != pair[1] for pair in thing])


def is_way(size, router, thing):
    """Whether a thing is a way of a router but the goal, through routers below the size."""
    if not isinstance(thing, tuple) or not 2 <= len(thing) <= MOST_ROUTERS:
        return False
    if not all([is_router(size, item) for item in thing]):
        return False
    return thing[0] == router and thing[-1] == 0 and len(set(thing)) == len(thing)


def replaced(row, place, item):
    """The tuple with another item at a place."""
    return row[:place] + (item,) + row[place + 1:]
