import itertools
import unittest

from tests import helper
from wishreels.errors import BadRoles, BadRouters, NoRouter
from wishreels.roles import Roles, customer_ring, is_levels, levels, put

CHAIN = Roles(3, [(0, 1), (1, 2)], [])
RING = Roles(4, [(1, 2), (2, 3), (3, 1)], [])
MIXED = Roles(5, [(0, 1), (0, 2), (1, 3), (2, 3)], [(1, 2), (4, 3)])


def pairs_of(roles):
    """The pairs of customers and of peers, each once."""
    numbers = range(roles.size)
    customers = [(c, g) for c in numbers for g in numbers if roles.role(g, c) == "customer"]
    peers = [(a, b) for a in numbers for b in numbers if a < b and roles.role(a, b) == "peer"]
    return customers, peers


def small_roles(size):
    """All roles of a size in which no two routers but the goal are peers."""
    links = list(itertools.combinations(range(1, size), 2))
    for kinds in itertools.product((None, 1, -1), repeat=len(links)):
        yield Roles(size, [link[::kind] for link, kind in zip(links, kinds) if kind], [])


class MakingTest(unittest.TestCase):
    def test_roles(self):
        self.assertEqual(MIXED.size, 5)
        self.assertEqual(MIXED.role(1, 0), "customer")
        self.assertEqual(MIXED.role(0, 1), "giver")
        self.assertEqual(MIXED.role(3, 2), "customer")
        self.assertEqual(MIXED.role(2, 3), "giver")
        self.assertEqual(MIXED.role(1, 2), "peer")
        self.assertEqual(MIXED.role(2, 1), "peer")
        self.assertEqual(MIXED.role(3, 4), "peer")
        self.assertIsNone(MIXED.role(0, 3))
        self.assertIsNone(MIXED.role(3, 0))
        self.assertIsNone(MIXED.role(2, 2))
        self.assertIsNone(MIXED.role(0, 0))

    def test_sizes(self):
        for size in range(2, 9):
            self.assertEqual(Roles(size, (), []).size, size)
        for size in helper.wrong_things() + [0, 1, 9, -2, 2.0]:
            with self.assertRaises(BadRoles) as caught:
                Roles(size, None, None)
            self.assertEqual(caught.exception.part, "size")

    def test_rows_are_lists_or_tuples(self):
        self.assertEqual(Roles(3, ((0, 1),), ((1, 2),)), Roles(3, [(0, 1)], [(1, 2)]))

    def test_wrong_rows(self):
        pair = [(1, 2)]
        wrong = [
            None, 1, "ab", {}, {(1, 2): 1}, set(), frozenset(), iter(pair), [[1, 2]], [(1,)], [(1, 2, 3)], [(1, 1)],
            [(1, 5)], [(-1, 1)], [(5, 1)], [(True, 2)], [(1, False)], [("1", 2)], [None], [1], (1, 2), ["ab"], [b"ab"],
            [(1, None)], [(1, 2), (3, 3)], [(1, 2), None], [((1,), 2)], [(1, [2])], range(2), [(0, 0)], [(1, 10 ** 29)]]
        for rows in wrong + [thing for thing in helper.wrong_things() if not isinstance(thing, (list, tuple))]:
            with self.assertRaises(BadRoles) as caught:
                Roles(5, rows, None)
            self.assertEqual(caught.exception.part, "customers")
            with self.assertRaises(BadRoles) as caught:
                Roles(5, [(2, 1), (1, 2), (3, 0)], rows)
            self.assertEqual(caught.exception.part, "peers")
        for thing in helper.wrong_things():
            for rows in ([thing], [(1, 2), thing], ((thing, 1),), [(1, thing)]):
                if rows not in ([(0, 1)], [(1, 2), (0, 1)]) or thing is True:
                    with self.assertRaises(BadRoles) as caught:
                        Roles(5, rows, [])
                    self.assertEqual(caught.exception.part, "customers")

    def test_two_pairs_of_the_same_routers(self):
        for customers, peers in [
                ([(1, 2), (1, 2)], []), ([(1, 2), (2, 1)], []), ([(1, 2)], [(1, 2)]), ([(1, 2)], [(2, 1)]),
                ([], [(1, 2), (1, 2)]), ([], [(1, 2), (2, 1)]), ([(0, 1), (0, 1)], []), ([(0, 1), (1, 0)], []),
                ([(3, 4), (1, 2)], [(2, 3), (4, 3)]), ([(0, 1)], [(0, 1)])]:
            with self.assertRaises(BadRoles) as caught:
                Roles(5, customers, peers)
            self.assertEqual(caught.exception.part, "pairs")

    def test_the_goal_is_a_customer_or_in_no_pair(self):
        for customers, peers in [
                ([(1, 0)], []), ([], [(0, 1)]), ([], [(1, 0)]), ([(0, 2), (1, 0)], []), ([(0, 2)], [(1, 0)])]:
            with self.assertRaises(BadRoles) as caught:
                Roles(3, customers, peers)
            self.assertEqual(caught.exception.part, "goal")
        self.assertEqual(Roles(3, [(0, 2), (0, 1)], [(1, 2)]).role(1, 0), "customer")

    def test_no_router(self):
        for thing in helper.wrong_things() + [5, 8]:
            for a, b in [(thing, 1), (1, thing), (thing, None)]:
                with self.assertRaises(NoRouter) as caught:
                    MIXED.role(a, b)
                self.assertIs(caught.exception.router, thing)

    def test_equal_just_if_size_and_all_roles_are(self):
        same = Roles(5, ((2, 3), (1, 3), (0, 2), (0, 1)), ((2, 1), (3, 4)))
        self.assertTrue(MIXED == same)
        self.assertFalse(MIXED != same)
        self.assertFalse(Roles(3, [], []) == Roles(4, [], []))
        self.assertFalse(Roles(3, [(1, 2)], []) == Roles(3, [(2, 1)], []))
        self.assertFalse(Roles(3, [(1, 2)], []) == Roles(3, [], [(1, 2)]))
        self.assertFalse(Roles(3, [(1, 2)], []) == Roles(3, [], []))
        for thing in helper.wrong_things():
            self.assertFalse(MIXED == thing)

    def test_they_keep_copies(self):
        customers, peers = [(0, 1)], [(1, 2)]
        roles = Roles(3, customers, peers)
        self.assertEqual((customers, peers), ([(0, 1)], [(1, 2)]))
        customers.append((2, 0))
        peers.clear()
        self.assertEqual(roles, Roles(3, [(0, 1)], [(1, 2)]))


class CustomerRingsTest(unittest.TestCase):
    def test_known_ones(self):
        self.assertEqual(customer_ring(RING), (1, 2, 3))
        self.assertEqual(customer_ring(Roles(4, [(2, 1), (3, 2), (1, 3)], [])), (1, 3, 2))
        self.assertIsNone(customer_ring(CHAIN))
        self.assertIsNone(customer_ring(MIXED))
        self.assertIsNone(customer_ring(Roles(2, [], [])))
        self.assertIsNone(customer_ring(Roles(4, [(1, 2), (2, 3)], [(3, 1)])))

    def test_the_shortest_goes_ahead_of_the_least(self):
        four = [(1, 2), (2, 3), (3, 4), (4, 1)]
        self.assertEqual(customer_ring(Roles(8, four, [])), (1, 2, 3, 4))
        self.assertEqual(customer_ring(Roles(8, four + [(5, 6), (6, 7), (7, 5)], [])), (5, 6, 7))
        self.assertEqual(customer_ring(Roles(8, [(2, 7), (7, 3), (3, 2), (2, 4), (4, 6), (6, 2)], [])), (2, 4, 6))
        seven = [(place, place % 7 + 1) for place in range(1, 8)]
        self.assertEqual(customer_ring(Roles(8, seven, [])), (1, 2, 3, 4, 5, 6, 7))

    def test_by_the_words(self):
        seen = 0
        for size in (2, 3, 4, 5):
            for roles in small_roles(size):
                found = [row for many in range(3, size + 1) for row in itertools.permutations(range(size), many) if all(
                    roles.role(row[(at + 1) % many], row[at]) == "customer" for at in range(many))]
                least = min(found, key=lambda row: (len(row), row), default=None)
                self.assertEqual(customer_ring(roles), least)
                self.assertIs(levels(roles) is None, least is not None)
                seen += least is not None
        self.assertGreater(seen, 100)

    def test_there_is_none_where_all_are_in_order(self):
        full = Roles(8, list(itertools.combinations(range(8), 2)), [])
        self.assertIsNone(customer_ring(full))
        self.assertEqual(levels(full), (0, 1, 2, 3, 4, 5, 6, 7))


class LevelsTest(unittest.TestCase):
    def test_known_ones(self):
        self.assertEqual(levels(CHAIN), (0, 1, 2))
        self.assertEqual(levels(MIXED), (0, 1, 1, 2, 0))
        self.assertEqual(levels(Roles(4, [], [(1, 2)])), (0, 0, 0, 0))
        self.assertEqual(levels(Roles(4, [(0, 3), (3, 2), (2, 1), (0, 1)], [])), (0, 3, 2, 1))
        self.assertIsNone(levels(RING))
        self.assertIsNone(levels(Roles(5, [(1, 2), (2, 3), (3, 1), (0, 4), (4, 1)], [])))

    def test_by_the_words(self):
        for size in (3, 4, 5):
            for roles in small_roles(size):
                told = levels(roles)
                customers, _ = pairs_of(roles)
                if told is not None:
                    self.assertIs(is_levels(roles, told), True)
                    for giver in range(size):
                        own = [told[c] for c, g in customers if g == giver]
                        self.assertEqual(told[giver], 1 + max(own) if own else 0)

    def test_judged(self):
        for row in itertools.product(range(-1, 3), repeat=3):
            self.assertIs(is_levels(CHAIN, row), row[0] < row[1] < row[2])
        for row in itertools.product(range(3), repeat=4):
            self.assertIs(is_levels(RING, row), False)
            self.assertIs(is_levels(Roles(4, [(2, 3)], [(1, 2)]), row), row[2] < row[3])
        self.assertIs(is_levels(CHAIN, (-(10 ** 29), 0, 10 ** 29)), True)

    def test_wrong_things(self):
        wrong = [(), (0, 1), (0, 1, 2, 3), [0, 1, 2], (False, 1, 2), (0, True, 2), (0, 1, None), (0, 1, "2"), ((0, 1, 2),)]
        for thing in helper.wrong_things() + wrong:
            self.assertIs(is_levels(CHAIN, thing), False)
        for thing in helper.spoiled((0, 1, 2)):
            right = isinstance(thing, tuple) and [type(one) for one in thing] == [int] * 3 and thing == tuple(sorted(set(thing)))
            self.assertIs(is_levels(CHAIN, thing), right)
        for thing in [(False, False), (False, 1), (None, 0), [0, 0], (0, 0, 0)]:
            self.assertIs(is_levels(Roles(2, [], []), thing), False)


class PutTest(unittest.TestCase):
    def test_known_ones(self):
        self.assertEqual(put(CHAIN, [2]), Roles(3, [(0, 2), (1, 2)], []))
        self.assertEqual(put(MIXED, ()), Roles(5, [(1, 3), (2, 3)], [(1, 2), (3, 4)]))
        self.assertEqual(put(MIXED, (4, 1)), Roles(5, [(1, 3), (2, 3), (0, 1), (0, 4)], [(1, 2), (3, 4)]))
        self.assertEqual(put(Roles(2, [], []), [1]), Roles(2, [(0, 1)], []))

    def test_by_the_words(self):
        for routers in itertools.chain.from_iterable(itertools.combinations(range(1, 5), many) for many in range(5)):
            for row in (list(routers), routers[::-1]):
                told = put(MIXED, row)
                customers, peers = pairs_of(told)
                self.assertEqual(customers, [(0, router) for router in routers] + [(1, 3), (2, 3)])
                self.assertEqual(peers, [(1, 2), (3, 4)])

    def test_wrong_rows(self):
        wrong = [[0], [5], [1, 1], [1, 0], (1, 2, 1), [True], [1, True], ["1"], [(1,)], [None], "1", {1: 1}, {1}, [1, 9],
                 [-1], [[1]], iter([1]), range(1, 2), b"\x01", [1, None], 1]
        for row in wrong + [thing for thing in helper.wrong_things() if thing != (1,)]:
            with self.assertRaises(BadRouters):
                put(MIXED, row)

    def test_nothing_is_changed(self):
        row = [2, 1]
        kept = pairs_of(CHAIN)
        put(CHAIN, row)
        customer_ring(CHAIN)
        levels(CHAIN)
        self.assertEqual((row, pairs_of(CHAIN)), ([2, 1], kept))


if __name__ == "__main__":
    unittest.main()
