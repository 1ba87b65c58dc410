"""Chains: by which write and which passes news came from one router to another one."""

from wishreels.errors import BadDeeds
from wishreels.floods import both_ways, is_flood_deed, refuse_wrong_flood
from wishreels.kinds import is_between, is_row, refuse_no_router


def latest(size, links, deeds, r, b):
    """A chain from r to b whose write is the latest, or None if there is no chain."""
    refuse_wrong_flood(size, links)
    refuse_wrong_deeds(size, links, deeds)
    refuse_no_router(size, r)
    refuse_no_router(size, b)
    # For each router the latest chain to it, () if there is none.
    chains = [()] * size
    for index, deed in enumerate(deeds):
        if deed[:2] == ("write", r):
            chains[r] = (index,)
        # What is cut off has the writes alone: a later one is greater, any one greater than none.
        elif deed[0] == "pass" and chains[deed[1]][:1] > chains[deed[2]][:1]:
            chains[deed[2]] = chains[deed[1]] + (index,)
    return chains[b] if chains[b] else None


def refuse_wrong_deeds(size, links, deeds):
    """Raise BadDeeds unless this is a row of deeds without restarts."""
    if not is_row(deeds):
        raise BadDeeds(-1)
    arrows = both_ways(links)
    for index, deed in enumerate(deeds):
        if not is_flood_deed(size, arrows, deed) or deed[0] == "restart":
            raise BadDeeds(index)


def is_chain(size, links, deeds, r, b, thing):
    """Whether a thing is a chain of the deeds from r to b."""
    if not isinstance(thing, tuple) or not all([is_between(0, len(deeds) - 1, index) for index in thing]):
        return False
    if len(thing) == 0 or list(thing) != sorted(thing) or deeds[thing[0]][:2] != ("write", r):
        return False
    there = r
    for index in thing[1:]:
        if deeds[index][:2] != ("pass", there):
            return False
        there = deeds[index][2]
    return there == b
