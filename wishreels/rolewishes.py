"""Wishes by roles: ways that customers, givers and peers let each other use."""

from wishreels.growth import first_wishes, grown_ways
from wishreels.kinds import refuse_no_router
from wishreels.roles import customer_ring
from wishreels.wishes import Wishes, hops, let_ways

# Which second routers are wished more in plain wishes.
RANKS = {"customer": 0, "peer": 1, "giver": 2}


def is_by_roles(roles, thing):
    """Whether a thing is wishes by the roles."""
    if not isinstance(thing, Wishes) or thing.size != roles.size:
        return False
    if not all([is_let(roles, way) for way in let_ways(thing)]):
        return False
    return all([has_customers_first(roles, thing.ways(router)) for router in range(thing.size)])


def is_let(roles, way):
    """Whether a way is let by the roles."""
    if any([roles.role(one, other) is None for one, other in hops(way)]):
        return False
    return all([is_told_on(roles, way[place - 1:place + 2]) for place in range(1, len(way) - 1)])


def is_told_on(roles, three):
    """Whether the router in the midst of three tells the first one its way by the last one."""
    return "customer" in (roles.role(three[1], three[0]), roles.role(three[1], three[2]))


def has_customers_first(roles, ways):
    """Whether no way by a customer stands behind another one in a tuple of ways of a router."""
    others = [roles.role(way[0], way[1]) != "customer" for way in ways]
    return others == sorted(others)


def role_ways(roles, router):
    """The ascending list of all ways of a router that are let by the roles."""
    refuse_no_router(roles.size, router)
    return sorted([way for way in all_role_ways(roles) if way[0] == router])


def all_role_ways(roles):
    """The list of all ways that are let by the roles, the shorter ones first."""
    # The rest of a way that is let by the roles is let, too, so its begin alone is looked at.
    return grown_ways(roles.size, lambda way: is_let(roles, way[:3]))


def plain_wishes(roles):
    """The wishes in which each router has the first few ways that the roles let it use."""
    ways = all_role_ways(roles)
    return first_wishes(roles.size, [(RANKS[roles.role(way[0], way[1])], len(way), way) for way in ways])


def ring_wishes(roles):
    """The routers of a customer ring, and wishes by the roles when the goal is put to them.

    Each router of the ring wishes to go by its customer in the ring more than to the goal at
    once. If all choose, all tell, all choose and all tell, again and again, they never rest.
    """
    ring = customer_ring(roles)
    if ring is None:
        return None
    lists = [()] * roles.size
    for place, router in enumerate(ring):
        lists[router] = ((router, ring[place - 1], 0), (router, 0))
    return (tuple(sorted(ring)), Wishes(tuple(lists)))
