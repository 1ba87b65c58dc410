"""Reels: rings of wishes for which it is enough to strike ways, and some order goes on for ever."""

from wishreels.errors import BadRing
from wishreels.rings import is_ring, rings


def broken(wishes, ring):
    """The first condition of reels that does not hold for a ring, or None for a reel."""
    if not is_ring(wishes, ring):
        raise BadRing()
    return broken_word(ring)


def broken_word(ring):
    """As broken, of what is a ring."""
    rims = [rim_of(ring, place) for place in range(len(ring))]
    if not has_pivots(ring, rims):
        return "pivot"
    if not has_spokes(ring, rims):
        return "spoke"
    return None if has_tree(ring) else "tree"


def rim_of(ring, place):
    """The far way of the item at a place, up to the next item's router."""
    far = ring[place][2]
    following = ring[(place + 1) % len(ring)][0]
    return far[:far.index(following) + 1]


def has_pivots(ring, rims):
    """Whether each item's router stands in no other own way, and in no rim that does not join it."""
    for place, (router, _, _) in enumerate(ring):
        ahead = (place - 1) % len(ring)
        for other, (_, own, _) in enumerate(ring):
            if other != place and router in own:
                return False
            if other != place and other != ahead and router in rims[other]:
                return False
    return True


def has_spokes(ring, rims):
    """Whether no router but those of the items stands both in an own way and in a rim."""
    pivots = [router for router, _, _ in ring]
    around = {router: True for rim in rims for router in rim if router not in pivots}
    return not any([router in around for _, own, _ in ring for router in own])


def has_tree(ring):
    """Whether two own ways that have a router in common go on alike from it."""
    onward = {}
    for _, own, _ in ring:
        for place, router in enumerate(own):
            if onward.setdefault(router, own[place:]) != own[place:]:
                return False
    return True


def reels(wishes):
    """The ascending list of the rings of the wishes that are reels."""
    return [ring for ring in rings(wishes) if broken_word(ring) is None]


def least_reel(wishes):
    """The first of the reels as reels_by_size orders them, or None."""
    found = reels_by_size(wishes)
    return found[0] if found else None


def reels_by_size(wishes):
    """The list of the reels: those with fewer items first, then with shorter far ways, then the lesser ones."""
    ranked = sorted([(len(reel), far_sum(reel), reel) for reel in reels(wishes)])
    return [row[2] for row in ranked]


def far_sum(ring):
    """The sum of the lengths of the far ways."""
    return sum([len(far) for _, _, far in ring])
