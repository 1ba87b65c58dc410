"""Losses: the fewest ways to lose so that each of some groups of ways loses one.

With a way all are lost that have it as an end. The ways have numbers; several ways together
are an integer with the bits of their numbers.
"""


class LossSearch:
    """The search for a least loss.

    above: for each way those that have it as an end, with itself. below: for each way its ends,
    with itself. best: the least loss found till now, at first all ways.
    """

    def __init__(self, above, below):
        self.above = above
        self.below = below
        self.best = (1 << len(above)) - 1

    def look(self, groups, lost):
        """Look at all losses with these ways lost in which each of these groups loses one, too.

        Of each group just the ways are given of which it is open whether they are lost.
        """
        groups, lost = self._with_sure_ones(groups, lost)
        if many_ways(lost) + many_apart(groups) >= many_ways(self.best):
            return
        if not groups:
            self.best = lost
            return
        way = self._most_wanted(groups)
        self.look(without_loss(groups, self.above[way]), lost | self.above[way])
        # A way can only be kept together with its ends.
        left = [group & ~self.below[way] for group in groups]
        if 0 not in left:
            self.look(least_groups(left), lost)

    def _with_sure_ones(self, groups, lost):
        """The groups and what is lost behind the loss of each way that is alone in a group."""
        sure = lone_way(groups)
        while sure is not None:
            lost |= self.above[sure]
            groups = without_loss(groups, self.above[sure])
            sure = lone_way(groups)
        return groups, lost

    def _most_wanted(self, groups):
        """The way that stands in the most groups, where smaller groups count much more."""
        worths = [0] * len(self.above)
        for group in groups:
            worth = 1 << (2 * (len(self.above) - many_ways(group)))
            for way in numbers_in(group):
                worths[way] += worth
        return worths.index(max(worths))


def many_ways(bits):
    """How many ways there are in an integer of bits."""
    return f"{bits:b}".count("1")


def numbers_in(bits):
    """The ascending list of the numbers whose bits are set."""
    return [number for number in range(bits.bit_length()) if (bits >> number) & 1 == 1]


def many_apart(groups):
    """The number of some groups no two of which have a way in common: each loses another way."""
    used = 0
    many = 0
    for group in groups:
        if group & used == 0:
            used |= group
            many += 1
    return many


def lone_way(groups):
    """The number of a way that is alone in its group, or None."""
    for group in groups:
        if group & (group - 1) == 0:
            return group.bit_length() - 1
    return None


def without_loss(groups, lost):
    """The list of the groups that have none of the lost ways."""
    return [group for group in groups if group & lost == 0]


def least_groups(groups):
    """The list of the groups that have no other group within them, the smaller ones first."""
    kept = []
    for group in sorted(groups, key=many_ways):
        if not any([less & group == less for less in kept]):
            kept.append(group)
    return kept


def least_loss(groups, above, below):
    """The least loss by which each group loses a way."""
    search = LossSearch(above, below)
    search.look(least_groups(groups), 0)
    return search.best
