import itertools
import random
import unittest

from tests import helper
from wishreels.costs import Costs, cheapest_way, cost_wishes, distances, is_distances
from wishreels.errors import BadCosts, NoRouter
from wishreels.rings import is_ladder
from wishreels.wishes import Wishes

SOME = Costs(3, {(1, 0): 5, (2, 1): 2, (2, 0): 9})
DEAR = 10 ** 9


def full(size, cost):
    """Costs in which there are all lines, of one cost."""
    return Costs(size, {pair: cost for pair in itertools.permutations(range(size), 2)})


def some_costs(seed, many, least=1, most=5):
    """Costs of any kind, the same ones in each run; many lines cost alike."""
    chance = random.Random(seed)
    found = []
    for _ in range(many):
        size = chance.randint(least, most)
        share, top = chance.random(), chance.choice([1, 2, 3, 9, DEAR])
        pairs = [pair for pair in itertools.permutations(range(size), 2) if chance.random() < share]
        chance.shuffle(pairs)
        found.append(Costs(size, {pair: chance.randint(1, top) for pair in pairs}))
    return found


def cost_along(costs, way):
    return sum(costs.cost(a, b) for a, b in zip(way, way[1:]))


def ways_between(costs, start, goal):
    """All tuples of unlike routers from start to goal along lines."""
    if start == goal:
        return [(start,)]
    others = [router for router in range(costs.size) if router not in (start, goal)]
    rows = [(start,) + row + (goal,) for many in range(costs.size) for row in itertools.permutations(others, many)]
    return [way for way in rows if all(costs.cost(a, b) is not None for a, b in zip(way, way[1:]))]


def cheapest_by_words(costs, start, goal):
    """The least pair (cost, way), or (None, None)."""
    return min([(cost_along(costs, way), way) for way in ways_between(costs, start, goal)], default=(None, None))


def distances_by_words(costs, goal):
    return tuple(cheapest_by_words(costs, start, goal)[0] for start in range(costs.size))


class MakingTest(unittest.TestCase):
    def test_costs(self):
        self.assertEqual(SOME.size, 3)
        self.assertEqual((SOME.cost(1, 0), SOME.cost(2, 1), SOME.cost(2, 0)), (5, 2, 9))
        for a, b in [(0, 0), (0, 1), (0, 2), (1, 1), (1, 2), (2, 2)]:
            self.assertIsNone(SOME.cost(a, b))

    def test_right_ones(self):
        for size in range(1, 9):
            self.assertEqual(Costs(size, {}).size, size)
        self.assertEqual(Costs(2, {(0, 1): 1, (1, 0): DEAR}).cost(1, 0), DEAR)
        self.assertEqual(Costs(8, {(7, 6): 3}).cost(7, 6), 3)

    def test_wrong_sizes(self):
        for thing in helper.wrong_things() + [0, 9, "2", 2.0]:
            with self.assertRaises(BadCosts) as caught:
                Costs(thing, None)
            self.assertEqual(caught.exception.part, "size")

    def test_wrong_lines(self):
        wrong = [None, [], (), {(0, 1)}, [((0, 1), 5)], "ab", 1]
        wrong += [{key: 1} for key in [
            (1, 1), (0, 3), (3, 0), (-1, 0), (True, 2), (0, True), (0,), (0, 1, 2), (), "01", 1, None, ("0", "1"),
            frozenset((0, 1)), ((0, 1),), (0, None), (0, 10 ** 29)]]
        wrong += [{(0, 1): 1, (2, 2): 1}, {(0, 1): 5, (1, 2): 0}]
        wrong += [{(0, 1): cost} for cost in [0, -1, DEAR + 1, 10 ** 29, True, None, "1", (1,), 1.0]]
        wrong += [{(0, 1): thing} for thing in helper.wrong_things() if thing != 99]
        for thing in wrong + helper.wrong_things():
            if thing != {(1, 0): 1}:
                with self.assertRaises(BadCosts) as caught:
                    Costs(3, thing)
                self.assertEqual(caught.exception.part, "lines")

    def test_no_router(self):
        for thing in helper.wrong_things() + [3]:
            calls = [lambda: SOME.cost(thing, 0), lambda: SOME.cost(0, thing), lambda: SOME.cost(thing, None),
                     lambda: distances(SOME, thing), lambda: cheapest_way(SOME, thing, 0),
                     lambda: cheapest_way(SOME, 0, thing), lambda: cheapest_way(SOME, thing, None)]
            for call in calls:
                with self.assertRaises(NoRouter) as caught:
                    call()
                self.assertIs(caught.exception.router, thing)

    def test_equal_just_if_size_and_lines_are(self):
        self.assertTrue(SOME == Costs(3, {(2, 0): 9, (2, 1): 2, (1, 0): 5}))
        self.assertFalse(SOME != Costs(3, {(2, 0): 9, (2, 1): 2, (1, 0): 5}))
        self.assertFalse(Costs(3, {}) == Costs(4, {}))
        self.assertFalse(Costs(3, {(0, 1): 1}) == Costs(4, {(0, 1): 1}))
        for lines in [{}, {(0, 1): 2}, {(1, 0): 1}, {(0, 1): 1, (1, 0): 1}]:
            self.assertFalse(Costs(3, {(0, 1): 1}) == Costs(3, lines))
        for thing in helper.wrong_things():
            self.assertFalse(SOME == thing)

    def test_they_keep_copies(self):
        lines = {(0, 1): 1}
        costs = Costs(2, lines)
        lines[(0, 1)] = 7
        lines[(1, 0)] = 7
        self.assertEqual(costs, Costs(2, {(0, 1): 1}))


class DistancesTest(unittest.TestCase):
    def test_some(self):
        self.assertEqual(distances(SOME, 0), (0, 5, 7))
        self.assertEqual(distances(SOME, 1), (None, 0, 2))
        self.assertEqual(distances(SOME, 2), (None, None, 0))
        self.assertEqual(distances(Costs(1, {}), 0), (0,))

    def test_by_the_words(self):
        for costs in some_costs(301, 80):
            for goal in range(costs.size):
                told = distances(costs, goal)
                self.assertEqual(told, distances_by_words(costs, goal))
                self.assertIs(is_distances(costs, goal, told), True)

    def test_the_longest_way(self):
        costs = Costs(8, {(router + 1, router): DEAR for router in range(7)})
        self.assertEqual(distances(costs, 0), tuple(DEAR * router for router in range(8)))
        costs = Costs(8, {(router, router + 1): DEAR for router in range(7)})
        self.assertEqual(distances(costs, 7), tuple(DEAR * (7 - router) for router in range(8)))

    def test_is_distances_for_these_alone(self):
        for costs in some_costs(302, 40, 1, 3):
            for goal in range(costs.size):
                right = distances(costs, goal)
                numbers = {None, -1, 0, 1, 2, 3, 4} | set(right)
                for row in itertools.product(sorted(numbers, key=str), repeat=costs.size):
                    self.assertIs(is_distances(costs, goal, row), row == right)

    def test_what_is_wrong_in_one_way(self):
        # The goal has another number; a router with None could come; one could come for less;
        # a router has no line by which it comes for this.
        self.assertIs(is_distances(Costs(1, {}), 0, (1,)), False)
        self.assertIs(is_distances(Costs(1, {}), 0, (None,)), False)
        self.assertIs(is_distances(SOME, 0, (0, None, 9)), False)
        self.assertIs(is_distances(SOME, 0, (0, 5, 9)), False)
        self.assertIs(is_distances(SOME, 0, (0, 5, 6)), False)
        self.assertIs(is_distances(SOME, 1, (3, 0, 2)), False)
        self.assertIs(is_distances(SOME, 1, (None, 0, 2)), True)

    def test_two_that_lead_but_to_each_other(self):
        costs = Costs(3, {(1, 2): 1, (2, 1): 1})
        self.assertIs(is_distances(costs, 0, (0, None, None)), True)
        for row in [(0, 1, 1), (0, 1, 2), (0, 5, 4), (0, None, 1), (0, 0, 0)]:
            self.assertIs(is_distances(costs, 0, row), False)

    def test_is_distances_of_any_object(self):
        for thing in helper.wrong_things() + list(helper.spoiled((0, 5, 7))):
            self.assertIs(is_distances(SOME, 0, thing), False)
        for thing in [(0, 5), (0, 5, 7, 9), (), [0, 5, 7], (False, 5, 7), (0, 5, 10 ** 40), ("0", 5, 7), {0: 0, 1: 5}]:
            self.assertIs(is_distances(SOME, 0, thing), False)


class WaysTest(unittest.TestCase):
    def test_some(self):
        self.assertEqual(cheapest_way(SOME, 2, 0), (2, 1, 0))
        self.assertEqual(cheapest_way(SOME, 2, 1), (2, 1))
        self.assertEqual(cheapest_way(SOME, 1, 1), (1,))
        self.assertIsNone(cheapest_way(SOME, 0, 2))
        self.assertEqual(cheapest_way(Costs(3, {(2, 1): 2, (1, 0): 2, (2, 0): 4}), 2, 0), (2, 0))
        self.assertEqual(cheapest_way(Costs(4, {(3, 1): 2, (3, 2): 1, (1, 0): 2, (2, 0): 3}), 3, 0), (3, 1, 0))

    def test_the_least_of_the_cheapest(self):
        ties = 0
        for costs in some_costs(303, 160):
            for start, goal in itertools.product(range(costs.size), repeat=2):
                told, way = cheapest_by_words(costs, start, goal)
                self.assertEqual(cheapest_way(costs, start, goal), way)
                ties += [cost_along(costs, one) for one in ways_between(costs, start, goal)].count(told) > 1
        self.assertGreater(ties, 50)


def cost_wishes_by_words(costs):
    firsts = []
    for router in range(costs.size):
        ways = ways_between(costs, router, 0) if router else []
        firsts.append([way for _, way in sorted((cost_along(costs, way), way) for way in ways)[:6]])
    kept = [way for few in firsts for way in few]
    lists = [[way for way in few if all(way[at:] in kept for at in range(len(way) - 1))] for few in firsts]
    return Wishes(tuple(tuple(few) for few in lists))


class CostWishesTest(unittest.TestCase):
    def test_some(self):
        self.assertEqual(cost_wishes(SOME), Wishes(((), ((1, 0),), ((2, 1, 0), (2, 0)))))
        self.assertEqual(cost_wishes(Costs(2, {})), Wishes(((), ())))
        self.assertEqual(cost_wishes(Costs(2, {(0, 1): 3})), Wishes(((), ())))
        self.assertEqual(cost_wishes(Costs(3, {(2, 1): 1, (1, 0): 1, (2, 0): 2})),
                         Wishes(((), ((1, 0),), ((2, 0), (2, 1, 0)))))

    def test_one_router(self):
        with self.assertRaises(BadCosts) as caught:
            cost_wishes(Costs(1, {}))
        self.assertEqual(caught.exception.part, "size")

    def test_by_the_words(self):
        cut = 0
        for costs in some_costs(304, 60, 2, 6):
            wishes = cost_wishes(costs)
            self.assertEqual(wishes, cost_wishes_by_words(costs))
            cut += any(0 < len(wishes.ways(router)) < min(6, len(ways_between(costs, router, 0)))
                       for router in range(1, costs.size))
        self.assertGreater(cut, 0)

    def test_full_ones(self):
        for costs in (full(8, 1), full(8, DEAR)):
            self.assertEqual(cost_wishes(costs), cost_wishes_by_words(costs))
            self.assertEqual([len(cost_wishes(costs).ways(router)) for router in range(8)], [0] + [6] * 7)

    def test_the_costs_are_a_ladder(self):
        for costs in some_costs(305, 60, 2, 6):
            wishes = cost_wishes(costs)
            self.assertTrue(is_ladder(wishes, {way: cost_along(costs, way) for way in helper.ways_of(wishes)}))


if __name__ == "__main__":
    unittest.main()
