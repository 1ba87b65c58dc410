import itertools
import random
import unittest

from tests import helper
from tests.test_costs import DEAR, cost_along, distances_by_words, ways_between
from wishreels.areas import Areas, area_distances, area_way, detours, is_area_way
from wishreels.costs import Costs
from wishreels.errors import BadAreas, BadLine, NoRouter


def made(lines, *places):
    """Areas for so many routers with these lines, both ways, each with a cost."""
    both = {(a, b): cost for a, b, cost in lines}
    both.update({(b, a): cost for a, b, cost in lines})
    return Areas(Costs(len(places), both), places)


# From 0 to 3 one comes for 3 through the areas 1, 2, 3, and for 15 through 1, 0, 3.
ROUND = made([(0, 1, 1), (1, 2, 1), (2, 3, 1), (0, 4, 5), (4, 5, 5), (5, 3, 5)],
             (1,), (1, 2), (2, 3), (3,), (0, 1), (0, 3))
# Both cost the same.
EVEN = made([(0, 1, 5), (1, 2, 5), (2, 3, 5), (0, 4, 5), (4, 5, 5), (5, 3, 5)],
            (1,), (1, 2), (2, 3), (3,), (0, 1), (0, 3))
# There is nothing but the areas 1, 2, 3.
ROW = made([(0, 1, 1), (1, 2, 1), (2, 3, 1)], (1,), (1, 2), (2, 3), (3,))


def some_areas(seed, many, most=5):
    """Areas of any kind, the same ones in each run."""
    chance = random.Random(seed)
    found = []
    for _ in range(many):
        size = chance.randint(1, most)
        numbers = chance.choice([(0, 1), (0, 1, 2), (0, 1, 2, 5), (1, 2, 3), (0, 1, 2, 3, 4, 5)])
        places = [tuple(sorted(chance.sample(numbers, chance.choice([1, 2, 2])))) for _ in range(size)]
        top, share = chance.choice([1, 3, 9, DEAR]), chance.choice([0.5, 1])
        lines = {}
        for a, b in itertools.permutations(range(size), 2):
            if len(set(places[a]) & set(places[b])) == 1 and chance.random() < share:
                lines[a, b] = chance.randint(1, top)
        found.append(Areas(Costs(size, lines), tuple(places)))
    return found


def areas_along(areas, way):
    found = []
    for a, b in zip(way, way[1:]):
        (area,) = set(areas.areas(a)) & set(areas.areas(b))
        found.append(area)
    return found


def is_allowed_by_words(row):
    """Whether there are two places at which a row of areas falls into what is allowed."""
    for first, last in itertools.combinations_with_replacement(range(len(row) + 1), 2):
        if len(set(row[:first])) <= 1 and set(row[first:last]) <= {0} and len(set(row[last:])) <= 1:
            return True
    return False


def walks(costs, start, goal, most):
    """All rows of lines from start to goal, as tuples of routers, with at most so many lines."""
    found, last = [], [(start,)]
    for _ in range(most + 1):
        found += [way for way in last if way[-1] == goal]
        last = [way + (b,) for way in last for b in range(costs.size) if costs.cost(way[-1], b) is not None]
    return found


def allowed_costs(areas, start, goal, most):
    """A dict from the allowed rows of lines, not too long, to their costs."""
    rows = walks(areas.costs, start, goal, most)
    return {way: cost_along(areas.costs, way) for way in rows if is_allowed_by_words(areas_along(areas, way))}


class MakingTest(unittest.TestCase):
    def test_areas(self):
        costs = Costs(2, {(0, 1): 4})
        areas = Areas(costs, ((0, 3), (3, 5)))
        self.assertEqual(areas.costs, costs)
        self.assertEqual((areas.areas(0), areas.areas(1)), ((0, 3), (3, 5)))
        self.assertEqual(Areas(Costs(1, {}), ((0, 1, 2, 3, 4, 5),)).areas(0), (0, 1, 2, 3, 4, 5))

    def test_no_tuple_of_as_many(self):
        for thing in helper.wrong_things() + [((0,),), ((0,),) * 3, [(0,), (0,)], {0: (0,), 1: (0,)}, iter([(0,), (0,)])]:
            if type(thing) is not tuple or len(thing) != 2:
                with self.assertRaises(BadAreas) as caught:
                    Areas(Costs(2, {}), thing)
                self.assertEqual(caught.exception.router, -1)

    def test_wrong_items(self):
        right = (0, 5)
        wrong = [(), (1, 0), (1, 1), (6,), (-1,), (0, 6), (True,), (0, True), [0], {0}, "0", 0, None, ("0",), (None,),
                 ((0,),), (0, 1, 1), {0: 1}, (10 ** 29,)]
        wrong += [thing for thing in helper.wrong_things() if thing not in [(0, 1), (1,), (0,)] or thing[0] is False]
        for thing in wrong:
            for router, places in enumerate([(thing, None, right), (right, thing, None), (right, right, thing)]):
                with self.assertRaises(BadAreas) as caught:
                    Areas(Costs(3, {(0, 1): 1}), places)
                self.assertEqual(caught.exception.router, router)

    def test_lines_lie_in_just_one_area(self):
        for lines, places, wrong in [
                ([(0, 1)], ((0,), (1,)), (0, 1)), ([(1, 0)], ((0,), (1,)), (1, 0)),
                ([(0, 1)], ((0, 1), (0, 1)), (0, 1)), ([(1, 0)], ((0, 1, 2), (1, 2, 3)), (1, 0)),
                ([(2, 0), (1, 2), (1, 0), (0, 2)], ((1,), (1,), (2,)), (0, 2)),
                ([(2, 0), (2, 1), (1, 2)], ((1, 4), (1,), (2, 4)), (1, 2)),
                ([(2, 1), (2, 0)], ((1, 4), (1, 3, 4), (1, 3, 4)), (2, 0))]:
            with self.assertRaises(BadLine) as caught:
                Areas(Costs(len(places), {line: 1 for line in lines}), places)
            self.assertEqual((caught.exception.a, caught.exception.b), wrong)
        # Two routers without a line may have any areas.
        self.assertEqual(Areas(Costs(2, {}), ((0,), (1,))).areas(1), (1,))

    def test_no_router(self):
        for thing in helper.wrong_things() + [5]:
            calls = [lambda: ROW.areas(thing), lambda: area_distances(ROW, thing), lambda: area_way(ROW, thing, 0),
                     lambda: area_way(ROW, 0, thing), lambda: area_way(ROW, thing, None)]
            for call in calls:
                with self.assertRaises(NoRouter) as caught:
                    call()
                self.assertIs(caught.exception.router, thing)


class DistancesTest(unittest.TestCase):
    def test_some(self):
        self.assertEqual(area_distances(ROUND, 3), (15, 2, 1, 0, 10, 5))
        self.assertEqual(area_distances(ROUND, 4), (5, 6, 7, 10, 0, 5))
        self.assertEqual(area_distances(ROW, 3), (None, 2, 1, 0))
        self.assertEqual(area_distances(Areas(Costs(1, {}), ((2,),)), 0), (0,))

    def test_what_is_allowed(self):
        # A row of routers, with a line in each of these areas.
        for row, allowed in [
                ((1,), True), ((0,), True), ((1, 0), True), ((0, 1), True), ((1, 1, 0, 2), True), ((1, 0, 0, 1), True),
                ((0, 0, 0), True), ((1, 2), True), ((1, 1, 2, 2), True), ((5, 0, 5), True), ((0, 1, 0), False),
                ((0, 1, 2), False), ((1, 2, 0), False), ((1, 0, 2, 0), False), ((1, 2, 3), False), ((1, 2, 1), False),
                ((0, 0, 1, 0, 0), False), ((0, 1, 0, 1), False), ((1, 0, 1, 0), False), ((1, 0, 2, 1), False)]:
            places = [sorted(set(row[max(at - 1, 0):at + 1])) for at in range(len(row) + 1)]
            lines = {(at, at + 1): 1 for at in range(len(row))}
            self.assertIs(is_allowed_by_words(row), allowed, row)
            if all(len(set(places[a]) & set(places[b])) == 1 for a, b in lines):
                areas = Areas(Costs(len(places), lines), tuple(map(tuple, places)))
                goal = len(row)
                self.assertEqual(area_distances(areas, goal)[0], goal if allowed else None, row)
                self.assertIs(is_area_way(areas, 0, goal, tuple(range(goal + 1))), allowed, row)
                self.assertEqual(detours(areas).count((0, goal)), int(not allowed))

    def test_by_the_words(self):
        detouring = 0
        for areas in some_areas(401, 150):
            size = areas.costs.size
            for goal in range(size):
                rows = [allowed_costs(areas, start, goal, size) for start in range(size)]
                told = tuple(min(row.values(), default=None) for row in rows)
                self.assertEqual(area_distances(areas, goal), told)
                for start in range(size):
                    way = area_way(areas, start, goal)
                    if told[start] is None:
                        self.assertIsNone(way)
                    else:
                        self.assertEqual(rows[start][way], told[start])
                        self.assertIs(is_area_way(areas, start, goal, way), True)
                far = distances_by_words(areas.costs, goal)
                detouring += sum(one is not None and one != other for one, other in zip(far, told))
        self.assertGreater(detouring, 5)

    def test_the_longest_rows(self):
        line = made([(at, at + 1, DEAR) for at in range(7)], (1,), (1,), (0, 1), (0,), (0,), (0, 5), (5,), (5,))
        self.assertEqual(area_distances(line, 7), tuple(DEAR * (7 - at) for at in range(8)))
        self.assertEqual(area_way(line, 0, 7), tuple(range(8)))
        self.assertEqual(area_way(line, 7, 0), tuple(range(7, -1, -1)))
        self.assertEqual(detours(line), [])


class WaysTest(unittest.TestCase):
    def test_some(self):
        self.assertEqual(area_way(ROUND, 0, 3), (0, 4, 5, 3))
        self.assertEqual(area_way(ROUND, 3, 4), (3, 5, 4))
        self.assertEqual(area_way(ROUND, 1, 3), (1, 2, 3))
        self.assertEqual(area_way(ROUND, 2, 2), (2,))
        self.assertEqual(area_way(EVEN, 0, 3), (0, 4, 5, 3))
        self.assertIsNone(area_way(ROW, 0, 3))

    def test_is_area_way_by_the_words(self):
        seen = {True: 0, False: 0}
        for areas in some_areas(402, 60, 4):
            size = areas.costs.size
            rows = [row for many in range(size + 2) for row in itertools.product(range(size), repeat=many)]
            for start, goal in itertools.product(range(size), repeat=2):
                allowed = allowed_costs(areas, start, goal, size)
                for row in rows:
                    told = row in allowed and allowed[row] == min(allowed.values())
                    self.assertIs(is_area_way(areas, start, goal, row), told)
                    seen[told] += 1
        self.assertGreater(seen[True], 200)

    def test_one_router(self):
        self.assertIs(is_area_way(ROW, 0, 0, (0,)), True)
        for thing in [(), (1,), (0, 0), (0, 1, 0), [0], (False,), 0, None]:
            self.assertIs(is_area_way(ROW, 0, 0, thing), False)

    def test_is_area_way_of_any_object(self):
        self.assertIs(is_area_way(ROUND, 0, 3, (0, 4, 5, 3)), True)
        for thing in helper.wrong_things() + list(helper.spoiled((0, 4, 5, 3))):
            self.assertIs(is_area_way(ROUND, 0, 3, thing), False)
        for thing in [(0, 1, 2, 3), (0, 3), (0, 4, 4, 5, 3), (0, 4, 5), (4, 5, 3), (3, 5, 4, 0), (0, 4, 0, 4, 5, 3)]:
            self.assertIs(is_area_way(ROUND, 0, 3, thing), False)
        self.assertIs(is_area_way(EVEN, 0, 3, (0, 4, 5, 3)), True)
        self.assertIs(is_area_way(EVEN, 0, 3, (0, 1, 2, 3)), False)
        for thing in [(0, 1, 2, 3), None, (), (0,), (3,)]:
            self.assertIs(is_area_way(ROW, 0, 3, thing), False)


class DetoursTest(unittest.TestCase):
    def test_some(self):
        self.assertEqual(detours(ROUND), [(0, 3), (0, 5), (3, 0), (3, 4), (4, 3), (5, 0)])
        self.assertEqual(detours(ROW), [(0, 3), (3, 0)])
        self.assertEqual(detours(EVEN), [])
        self.assertEqual(detours(Areas(Costs(2, {}), ((0,), (1,)))), [])

    def test_by_the_words(self):
        seen = 0
        for areas in some_areas(403, 150, 7):
            told = detours(areas)
            self.assertEqual(told, detours_by_words(areas))
            seen += len(told)
        self.assertGreater(seen, 50)


def detours_by_words(areas):
    found = []
    for start, goal in itertools.permutations(range(areas.costs.size), 2):
        ways = ways_between(areas.costs, start, goal)
        least = min([cost_along(areas.costs, way) for way in ways], default=None)
        cheapest = [way for way in ways if cost_along(areas.costs, way) == least]
        if ways and not any(is_allowed_by_words(areas_along(areas, way)) for way in cheapest):
            found.append((start, goal))
    return found


if __name__ == "__main__":
    unittest.main()
