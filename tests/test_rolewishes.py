import itertools
import random
import unittest

from tests import helper
from tests.test_roles import CHAIN, MIXED, RING, pairs_of
from wishreels.errors import NoRouter, TooMany
from wishreels.orderpapers import endless, is_endless
from wishreels.reels import reels
from wishreels.rings import ladder
from wishreels.roles import Roles, customer_ring, put
from wishreels.rolewishes import is_by_roles, plain_wishes, ring_wishes, role_ways
from wishreels.strikings import settles_struck
from wishreels.wishes import Wishes

# Two routers below the goal's giver; 3 and 4 are peers, and customers of 5.
TREE = Roles(6, [(0, 1), (0, 2), (1, 3), (2, 4), (3, 5), (4, 5)], [(3, 4), (1, 2)])


def some_roles(seed, many, least, most):
    """Roles of any kind, the same ones in each run."""
    chance = random.Random(seed)
    found = []
    for _ in range(many):
        size = chance.randint(least, most)
        customers = [(0, router) for router in range(1, size) if chance.random() < 0.6]
        peers = []
        for link in itertools.combinations(range(1, size), 2):
            kind = chance.random()
            if kind < 0.15:
                peers.append(link)
            elif kind < 0.8:
                customers.append(link if kind < 0.6 else link[::-1])
        found.append(Roles(size, customers, peers))
    return found


def is_let(roles, way):
    """Whether a way is let by the roles, by the words of the document."""
    if any(roles.role(way[at], way[at + 1]) is None for at in range(len(way) - 1)):
        return False
    return all("customer" in [roles.role(way[at], way[at - 1]), roles.role(way[at], way[at + 1])]
               for at in range(1, len(way) - 1))


def is_by_words(roles, wishes):
    if wishes.size != roles.size or not all(is_let(roles, way) for way in helper.ways_of(wishes)):
        return False
    for router in range(1, wishes.size):
        kinds = [roles.role(router, way[1]) == "customer" for way in wishes.ways(router)]
        if any(kinds[b] and not kinds[a] for b in range(len(kinds)) for a in range(b)):
            return False
    return True


def plain_by_words(roles):
    firsts = [[]]
    for router in range(1, roles.size):
        ways = [way for way in helper.all_ways(roles.size, router) if is_let(roles, way)]
        ranks = ["customer", "peer", "giver"]
        firsts.append(sorted(ways, key=lambda way: (ranks.index(roles.role(way[0], way[1])), len(way), way))[:6])
    known = [way for ways in firsts for way in ways]
    return tuple(tuple(way for way in ways if all(way[at:] in known for at in range(len(way) - 1))) for ways in firsts)


class RoleWaysTest(unittest.TestCase):
    def test_known_ones(self):
        self.assertEqual(role_ways(CHAIN, 0), [])
        self.assertEqual(role_ways(CHAIN, 1), [(1, 0)])
        self.assertEqual(role_ways(CHAIN, 2), [(2, 1, 0)])
        self.assertEqual(role_ways(RING, 1), [])
        self.assertEqual(role_ways(MIXED, 3), [(3, 1, 0), (3, 2, 0)])
        self.assertEqual(role_ways(MIXED, 1), [(1, 0), (1, 2, 0), (1, 3, 2, 0)])
        self.assertEqual(role_ways(MIXED, 4), [(4, 3, 1, 0), (4, 3, 2, 0)])

    def test_a_peer_or_giver_tells_others_just_what_a_customer_told(self):
        self.assertIn((3, 4, 2, 0), role_ways(TREE, 3))
        self.assertNotIn((3, 5, 4, 2, 1, 0), role_ways(TREE, 3))
        self.assertIn((1, 3, 4, 2, 0), role_ways(TREE, 1))
        self.assertIn((1, 3, 5, 4, 2, 0), role_ways(TREE, 1))
        self.assertNotIn((3, 1, 2, 0), role_ways(TREE, 3))
        self.assertNotIn((5, 3, 4, 2, 0), role_ways(TREE, 5))

    def test_by_the_words(self):
        for roles in some_roles(91, 60, 2, 6) + [CHAIN, RING, MIXED, TREE]:
            for router in range(1, roles.size):
                ways = [way for way in helper.all_ways(roles.size, router) if is_let(roles, way)]
                self.assertEqual(role_ways(roles, router), sorted(ways))
            self.assertEqual(role_ways(roles, 0), [])

    def test_of_eight_routers(self):
        for roles in some_roles(92, 3, 8, 8):
            ways = [way for way in helper.all_ways(8, 7) if is_let(roles, way)]
            self.assertEqual(role_ways(roles, 7), sorted(ways))

    def test_no_router(self):
        for thing in helper.wrong_things() + [3]:
            with self.assertRaises(NoRouter) as caught:
                role_ways(CHAIN, thing)
            self.assertIs(caught.exception.router, thing)

    def test_each_list_is_new(self):
        role_ways(CHAIN, 1).append(None)
        self.assertEqual(role_ways(CHAIN, 1), [(1, 0)])


class ByRolesTest(unittest.TestCase):
    def test_known_ones(self):
        for lists in [((), (), ()), ((), ((1, 0),), ()), ((), ((1, 0),), ((2, 1, 0),))]:
            self.assertIs(is_by_roles(CHAIN, Wishes(lists)), True)
        for lists in [((), ((1, 0),), ((2, 0),)), ((), ((1, 2, 0),), ((2, 0),)), ((), ()), ((), (), (), ())]:
            self.assertIs(is_by_roles(CHAIN, Wishes(lists)), False)

    def test_ways_by_customers_are_wished_more(self):
        roles = Roles(4, [(0, 1), (0, 2), (1, 2), (2, 3)], [(1, 3)])
        ways = [(2, 0), (2, 1, 0)]
        for row in itertools.permutations(ways):
            self.assertIs(is_by_roles(roles, Wishes(((), ((1, 0),), row, ()))), True)
        for row, told in [(((1, 0), (1, 2, 0)), True), (((1, 2, 0), (1, 0)), False), (((1, 2, 0),), True)]:
            self.assertIs(is_by_roles(roles, Wishes(((), row, ((2, 0),), ()))), told)
        for row, told in [(((3, 2, 0), (3, 1, 0)), True), (((3, 1, 0), (3, 2, 0)), False)]:
            self.assertIs(is_by_roles(roles, Wishes(((), ((1, 0),), ((2, 0),), row))), told)
        between = Roles(4, [(0, 1), (0, 2), (0, 3), (1, 2)], [(1, 3)])
        for row in [((1, 0), (1, 3, 0), (1, 2, 0)), ((1, 0), (1, 2, 0), (1, 3, 0))]:
            self.assertIs(is_by_roles(between, Wishes(((), row, ((2, 0),), ((3, 0),)))), True)
        for row in [((1, 3, 0), (1, 0), (1, 2, 0)), ((1, 2, 0), (1, 3, 0), (1, 0))]:
            self.assertIs(is_by_roles(between, Wishes(((), row, ((2, 0),), ((3, 0),)))), False)

    def test_by_the_words(self):
        seen = {True: 0, False: 0}
        for roles in some_roles(93, 40, 2, 4):
            for wishes in helper.tiny_wishes()[::7] + [plain_wishes(roles)] + helper.some_wishes(94, 20, 4, 4, 2):
                told = is_by_roles(roles, wishes)
                self.assertIs(told, is_by_words(roles, wishes))
                seen[told] += 1
        self.assertGreater(min(seen.values()), 50)

    def test_wrong_things(self):
        for roles in (CHAIN, RING, Roles(2, [], [])):
            for thing in helper.wrong_things() + [((), (), ()), roles]:
                self.assertIs(is_by_roles(roles, thing), thing is helper.BARE and roles.size == 2)


class PlainWishesTest(unittest.TestCase):
    def test_known_ones(self):
        self.assertEqual(plain_wishes(CHAIN), Wishes(((), ((1, 0),), ((2, 1, 0),))))
        self.assertEqual(plain_wishes(RING), Wishes(((), (), (), ())))
        self.assertEqual(plain_wishes(MIXED), Wishes((
            (), ((1, 0), (1, 2, 0), (1, 3, 2, 0)), ((2, 0), (2, 1, 0), (2, 3, 1, 0)), ((3, 1, 0), (3, 2, 0)),
            ((4, 3, 1, 0), (4, 3, 2, 0)))))

    def test_by_the_words(self):
        cut = lost = 0
        for roles in some_roles(95, 60, 2, 6) + some_roles(96, 4, 8, 8) + [TREE]:
            told = plain_wishes(roles)
            self.assertEqual(helper.lists_of(told), plain_by_words(roles))
            self.assertIs(is_by_roles(roles, told), True)
            for router in range(1, roles.size):
                many = len(role_ways(roles, router))
                cut += many > 6
                lost += len(told.ways(router)) < min(6, many)
        self.assertGreater(cut, 5)
        self.assertGreater(lost, 5)

    def test_they_settle_under_all_strikings_without_a_customer_ring(self):
        checked = 0
        for roles in some_roles(97, 60, 3, 7):
            if customer_ring(roles) is None:
                self.assertIs(settles_struck(plain_wishes(roles)), True)
                checked += 1
        self.assertGreater(checked, 15)


class RingWishesTest(unittest.TestCase):
    def test_there_are_some_just_if_there_is_a_customer_ring(self):
        seen = {True: 0, False: 0}
        for roles in some_roles(98, 200, 2, 6) + [CHAIN, RING, MIXED, TREE]:
            told = ring_wishes(roles)
            self.assertIs(told is None, customer_ring(roles) is None)
            self.assertEqual(ring_wishes(roles), told)
            seen[told is None] += 1
            if told is not None:
                routers, wishes = told
                self.assertEqual(routers, tuple(sorted(set(routers))))
                self.assertIsInstance(routers, tuple)
                self.assertIs(is_by_roles(put(roles, routers), wishes), True)
                self.assertIsNotNone(endless(wishes))
        self.assertGreater(min(seen.values()), 10)

    def test_rings_of_all_lengths(self):
        for many in range(3, 8):
            for step in (1, -1):
                row = list(range(8 - many, 8))[::step]
                roles = Roles(8, [(row[at - 1], row[at]) for at in range(many)], [])
                routers, wishes = ring_wishes(roles)
                self.assertEqual(put(put(roles, []), routers), put(roles, routers))
                self.assertIs(is_by_roles(put(roles, routers), wishes), True)
                told = tuple(("tell",) + line for line in wishes.lines())
                chosen = tuple(("choose", router) for router in range(1, 8))
                try:
                    paper = endless(wishes)
                except TooMany:
                    paper = (chosen, told + chosen + told + chosen)
                self.assertIs(is_endless(wishes, paper), True)

    def test_pairs_of_the_goal_do_not_matter(self):
        customers, peers = pairs_of(RING)
        roles = Roles(5, customers + [(0, 4), (0, 1), (4, 2)], peers)
        routers, wishes = ring_wishes(roles)
        self.assertIs(is_by_roles(put(roles, routers), wishes), True)
        self.assertIsNotNone(endless(wishes))

    def test_without_a_customer_ring_no_wishes_by_the_roles_have_a_reel(self):
        roles = Roles(4, [(1, 2), (1, 3)], [(2, 3)])
        for many in range(4):
            for routers in itertools.combinations(range(1, 4), many):
                there = put(roles, routers)
                columns = []
                for router in range(1, 4):
                    ways = role_ways(there, router)
                    columns.append([row for many in range(len(ways) + 1) for row in itertools.permutations(ways, many)])
                for lists in itertools.islice(itertools.product(*columns), 0, None, 37):
                    rests = [way[1:] for row in lists for way in row if len(way) > 2]
                    if all(rest in lists[rest[0] - 1] for rest in rests):
                        wishes = Wishes(((),) + lists)
                        if is_by_roles(there, wishes):
                            self.assertEqual(reels(wishes), [])
                            self.assertTrue(ladder(wishes) is not None or settles_struck(wishes))


if __name__ == "__main__":
    unittest.main()
