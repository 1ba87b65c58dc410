"""Roles: which router is a customer, a giver or a peer of which other one."""

from wishreels.errors import BadRoles, BadRouters
from wishreels.kinds import is_between, is_integer_tuple, is_row, is_row_of_unlike_pairs, is_size, refuse_no_router

LEAST_SIZE = 2


class Roles:
    """Routers and what they are for each other; the goal is nothing but a customer. Roles never change."""

    def __init__(self, size, customers, peers):
        refuse_wrong_roles(size, customers, peers)
        self.size = size
        self._table = {}
        for customer, giver in customers:
            self._table[(giver, customer)] = "customer"
            self._table[(customer, giver)] = "giver"
        for one, other in peers:
            self._table[(one, other)] = "peer"
            self._table[(other, one)] = "peer"

    def __eq__(self, other):
        return isinstance(other, Roles) and self.size == other.size and self._table == other._table

    def role(self, a, b):
        """What b is for a: "customer", "giver", "peer", or None."""
        refuse_no_router(self.size, a)
        refuse_no_router(self.size, b)
        return self._table.get((a, b))


def refuse_wrong_roles(size, customers, peers):
    """Raise BadRoles unless these are the parts of roles."""
    if not is_size(LEAST_SIZE, size):
        raise BadRoles("size")
    if not is_row_of_unlike_pairs(size, customers):
        raise BadRoles("customers")
    if not is_row_of_unlike_pairs(size, peers):
        raise BadRoles("peers")
    pairs = list(customers) + list(peers)
    if len(set([(min(pair), max(pair)) for pair in pairs])) < len(pairs):
        raise BadRoles("pairs")
    if any([giver == 0 for _, giver in customers]) or any([0 in pair for pair in peers]):
        raise BadRoles("goal")


def routers_with(roles, router, role):
    """The ascending list of the routers that have this role for a router."""
    return [other for other in range(roles.size) if roles.role(router, other) == role]


def customer_ring(roles):
    """The shortest customer ring, of these the least, or None.

    The rows of one length, in which each router is a customer of the next one, are ascending.
    Till one of them is a ring, none comes back to a router, so that they come to an end.
    """
    rows = [(router,) for router in range(roles.size)]
    while rows:
        for row in rows:
            if roles.role(row[0], row[-1]) == "customer":
                return row
        rows = [row + (giver,) for row in rows for giver in routers_with(roles, row[-1], "giver")]
    return None


def levels(roles):
    """The least levels, or None if there are none."""
    row = (0,) * roles.size
    # No row of routers, each a customer of the next one, is longer unless there is a ring.
    for _ in range(roles.size):
        row = tuple([level_over(roles, row, router) for router in range(roles.size)])
    return row if is_levels(roles, row) else None


def level_over(roles, row, router):
    """One more than the greatest level of the customers of a router, 0 if it has none."""
    return max([row[customer] + 1 for customer in routers_with(roles, router, "customer")], default=0)


def is_levels(roles, thing):
    """Whether a thing is levels."""
    if not is_integer_tuple(thing) or len(thing) != roles.size:
        return False
    return all([thing[customer] < thing[giver] for customer, giver in customer_pairs(roles)])


def customer_pairs(roles):
    """The list of the pairs (customer, giver)."""
    return [(customer, giver) for giver in range(roles.size) for customer in routers_with(roles, giver, "customer")]


def put(roles, routers):
    """The roles in which the goal is a customer of just these routers, and all else is alike."""
    if not is_row(routers) or not all([is_between(1, roles.size - 1, router) for router in routers]):
        raise BadRouters()
    if len(set(routers)) < len(routers):
        raise BadRouters()
    customers = [pair for pair in customer_pairs(roles) if pair[0] != 0] + [(0, router) for router in routers]
    peers = [(one, other) for one in range(roles.size) for other in routers_with(roles, one, "peer") if one < other]
    return Roles(roles.size, customers, peers)
