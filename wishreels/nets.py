"""Nets: policies for what routers tell each other, and the wishes that they make."""

from wishreels.errors import BadNet, BadWay, TooMany
from wishreels.growth import longer_ways
from wishreels.kinds import is_integer_tuple, is_router_pair, is_size, is_way, refuse_no_router
from wishreels.policies import Policy
from wishreels.takings import GOAL_WAY
from wishreels.wishes import MOST_WAYS, Wishes

LEAST_SIZE = 2


class Net:
    """Routers and the policies by which they judge what others tell. Nets never change."""

    def __init__(self, size, policies):
        if not is_size(LEAST_SIZE, size):
            raise BadNet("size")
        if not is_policy_dict(size, policies):
            raise BadNet("policies")
        self.size = size
        self._policies = {pair: policies[pair] for pair in policies}

    def __eq__(self, other):
        return isinstance(other, Net) and self.size == other.size and self._policies == other._policies

    def policy(self, w, v):
        """The policy by which v judges what w tells, or None."""
        refuse_no_router(self.size, w)
        refuse_no_router(self.size, v)
        return self._policies.get((w, v))

    def with_policy(self, w, v, policy):
        """The net in which v judges what w tells by this policy, by none if it is None."""
        refuse_no_router(self.size, w)
        refuse_no_router(self.size, v)
        if not is_teller_pair(self.size, (w, v)):
            raise BadNet("policies")
        policies = {pair: self._policies[pair] for pair in self._policies if pair != (w, v)}
        if policy is not None:
            policies[(w, v)] = policy
        return Net(self.size, policies)

    def told(self, way):
        """The number and the tags of a way, or None if the net does not let it be."""
        if not is_way_or_goal_way(self.size, way):
            raise BadWay()
        answer = (0, ())
        for place in range(len(way) - 1, 0, -1):
            policy = self._policies.get((way[place], way[place - 1]))
            answer = None if policy is None else policy.answer(way[place:], answer[1])
            if answer is None:
                return None
        return answer


def is_policy_dict(size, thing):
    """Whether a thing is a dict from pairs of tellers and hearers to policies."""
    if not isinstance(thing, dict) or not all([is_teller_pair(size, pair) for pair in thing]):
        return False
    return all([isinstance(policy, Policy) for policy in thing.values()])


def is_teller_pair(size, thing):
    """Whether a thing is a pair of unlike routers, the second one not the goal."""
    return is_router_pair(size, thing) and thing[0] != thing[1] and thing[1] != 0


def is_way_or_goal_way(size, thing):
    """Whether a thing is a way through routers below the size, or that of the goal."""
    if not is_integer_tuple(thing) or len(thing) == 0:
        return False
    return thing == GOAL_WAY or is_way(size, thing[0], thing)


def wishes_of(net):
    """The wishes in which each router has all its ways that are let by the net."""
    columns = [[] for _ in range(net.size)]
    rests = [GOAL_WAY]
    while rests:
        longer = [way for rest in rests for way in longer_ways(net.size, rest)]
        found = [way for way in longer if net.told(way) is not None]
        for way in found:
            columns[way[0]].append((net.told(way)[0], len(way), way))
        # Ways that are too many are not gone on with, as there might be very many then.
        if max([len(column) for column in columns]) > MOST_WAYS:
            raise TooMany(MOST_WAYS)
        rests = found
    return Wishes(tuple([tuple([row[2] for row in sorted(column)]) for column in columns]))
