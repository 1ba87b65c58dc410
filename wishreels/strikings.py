"""Strikings: whether wishes settle whatever ways are struck, and the fewest to strike so that they do."""

from wishreels.kinds import is_tuple_of
from wishreels.losses import least_loss, numbers_in
from wishreels.orderpapers import endless, is_endless
from wishreels.reels import reels, reels_by_size
from wishreels.wishes import ends, is_row_of_unlike_ways, let_ways


def settles_struck(wishes):
    """Whether the wishes settle under all strikings."""
    return len(reels(wishes)) == 0


def strike_paper(wishes):
    """A strike paper, or None if the wishes settle under all strikings."""
    for reel in reels_by_size(wishes):
        others = ways_beside(wishes, reel)
        paper = endless(wishes.struck(others))
        if paper is not None:
            return (tuple(others), paper[0], paper[1])
    return None


def ways_beside(wishes, reel):
    """The list of the let ways that are no ends of an own or a far way of a reel."""
    kept = {end: True for _, own, far in reel for way in (own, far) for end in ends(way)}
    return [way for way in let_ways(wishes) if way not in kept]


def is_strike_paper(wishes, thing):
    """Whether a thing is a strike paper."""
    if not is_tuple_of(3, thing) or not is_tuple_of_unlike_ways(wishes, thing[0]):
        return False
    return is_endless(wishes.struck(thing[0]), thing[1:])


def is_tuple_of_unlike_ways(wishes, thing):
    """Whether a thing is a tuple of unlike let ways."""
    return isinstance(thing, tuple) and is_row_of_unlike_ways(wishes, thing)


def least_cure(wishes):
    """A cure by which as few let ways as can be are lost.

    Of each reel a far way must be lost; with an own way the far way that ends with it is lost.
    """
    ways = let_ways(wishes)
    numbers = {way: number for number, way in enumerate(ways)}
    below = [bits_for(numbers, ends(way)) for way in ways]
    above = [bits_for(numbers, [other for other in ways if way in ends(other)]) for way in ways]
    groups = [bits_for(numbers, [far for _, _, far in reel]) for reel in reels(wishes)]
    lost = [ways[number] for number in numbers_in(least_loss(groups, above, below))]
    return tuple(sorted([way for way in lost if way[1:] not in lost]))


def bits_for(numbers, ways):
    """The integer with the bits of these unlike ways."""
    return sum([1 << numbers[way] for way in ways])


def is_cure(wishes, thing):
    """Whether a thing is a cure."""
    if not is_tuple_of_unlike_ways(wishes, thing) or list(thing) != sorted(thing):
        return False
    struck = {way: True for way in thing}
    if any([end in struck for way in thing for end in ends(way)[1:]]):
        return False
    return settles_struck(wishes.struck(thing))
