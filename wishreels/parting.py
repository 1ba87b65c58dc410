"""Parting: where two policies answer unlike, and where a rule decides or is not needed."""

from wishreels.errors import BadNumber, TooMany
from wishreels.kinds import MOST_ROUTERS, is_between
from wishreels.patterns import Sieve
from wishreels.policies import Policy, answer_by, first_for

MOST_WAYS_TO_STAND = 3000


class Standings:
    """All ways to stand of the patterns of two policies' rules, the one of the empty tuple first.

    stands: the list of them, in the order of the shortest and then least routers that lead to
    each.
    """

    def __init__(self, one, other):
        self.sieve = Sieve([rule.pattern for rule in one.rules + other.rules])
        self.stands = [self.sieve.first]
        # The way to stand ahead of the last router, and this router.
        self._came = {self.sieve.first: None}
        looked = 0
        while looked < len(self.stands):
            self._go_on(self.stands[looked])
            looked += 1

    def _go_on(self, stand):
        """Find the ways to stand behind one more router."""
        for router in range(MOST_ROUTERS):
            later = self.sieve.read(stand, router)
            if later not in self._came:
                if len(self.stands) == MOST_WAYS_TO_STAND:
                    raise TooMany(MOST_WAYS_TO_STAND)
                self._came[later] = (stand, router)
                self.stands.append(later)

    def routers_to(self, stand):
        """The shortest routers, of these the least, that lead to a way to stand."""
        routers = []
        while self._came[stand] is not None:
            stand, router = self._came[stand]
            routers.append(router)
        return tuple(routers[::-1])


def ways_to_stand(one, other):
    """The number of the ways to stand of the patterns of two policies."""
    return len(Standings(one, other).stands)


def parting(one, other):
    """The least routers and tags to which two policies answer unlike, or None."""
    standings = Standings(one, other)
    rules = one.rules + other.rules
    looked = {}
    # No policy answers to the empty tuple; where there are rules, no other leads to its way to stand.
    for stand in standings.stands[1:]:
        fitting = tuple(standings.sieve.fitting(stand))
        if fitting not in looked:
            looked[fitting] = True
            ones = [rules[index] for index in fitting if index < len(one.rules)]
            others = [rules[index] for index in fitting if index >= len(one.rules)]
            tags = least_unlike_tags(ones, others)
            if tags is not None:
                return (standings.routers_to(stand), tags)
    return None


def least_unlike_tags(ones, others):
    """The fewest tags, of these the least, that part two lists of rules that all fit, or None."""
    found = []
    for one_deed, one_wanted, one_barred in cases(ones):
        for other_deed, other_wanted, other_barred in cases(others):
            wanted = sorted(set(one_wanted + other_wanted))
            found += unlike_tags(one_deed, other_deed, wanted, one_barred + other_barred)
    return min([(len(tags), tags) for tags in found])[1] if found else None


def cases(rules):
    """What may decide among rules that all fit: the list of the tuples (deed, wanted, barred).

    The deed counts for just the tags that have all wanted names and no barred one.
    """
    found = []
    barred = []
    for rule in rules:
        if rule.tag is None:
            return found + [(rule.deed, [], barred)]
        if rule.tag not in barred:
            found.append((rule.deed, [rule.tag], barred))
            barred = barred + [rule.tag]
    return found + [(None, [], barred)]


def unlike_tags(one, other, wanted, barred):
    """A list of tags with these names that two deeds answer unlike, the fewest and least among them.

    If the wanted names alone do not part the deeds, then at the most names that one deed takes
    off and the other does not do, so one of these is enough.
    """
    if one == other or any([name in barred for name in wanted]):
        return []
    rows = [wanted]
    for deed in (one, other):
        if deed is not None:
            rows += [sorted(wanted + [name]) for name in deed[2] if name not in wanted and name not in barred]
    return [tuple(row) for row in rows if answer_by(one, row) != answer_by(other, row)]


def used(policy, index):
    """The least routers and tags at which the rule with this index decides, or None."""
    if not is_between(0, len(policy.rules) - 1, index):
        raise BadNumber()
    standings = Standings(policy, policy)
    tag = policy.rules[index].tag
    tags = () if tag is None else (tag,)
    for stand in standings.stands[1:]:
        fitting = [place for place in standings.sieve.fitting(stand) if place < len(policy.rules)]
        if first_for(policy.rules, fitting, tags) == index:
            return (standings.routers_to(stand), tags)
    return None


def needless(policy):
    """The ascending list of the indexes of the rules without which, each alone, the policy is alike."""
    rules = policy.rules
    shorter = [Policy(rules[:index] + rules[index + 1:]) for index in range(len(rules))]
    return [index for index, less in enumerate(shorter) if parting(policy, less) is None]
