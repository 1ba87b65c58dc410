import itertools
import unittest

from tests import helper
from tests.helper import APART, BAD, BARE, LONE, LONG, PLAIN, SWAP
from wishreels.errors import TooMany
from wishreels.rings import is_ladder, is_ring, ladder, rings
from wishreels.wishes import Wishes

RING = ((1, (1, 0), (1, 2, 0)), (2, (2, 0), (2, 1, 0)))
JUST = Wishes((
    (), ((1, 7, 5, 0), (1, 3, 0), (1, 2, 0), (1, 6, 0), (1, 4, 5, 0), (1, 0)),
    ((2, 3, 0), (2, 6, 7, 0), (2, 5, 0), (2, 7, 0), (2, 4, 6, 0), (2, 0)),
    ((3, 5, 0), (3, 6, 0), (3, 2, 0), (3, 4, 0), (3, 7, 0), (3, 0)),
    ((4, 5, 1, 0), (4, 7, 0), (4, 1, 0), (4, 6, 0), (4, 5, 0), (4, 0)),
    ((5, 3, 7, 0), (5, 6, 2, 0), (5, 1, 0), (5, 6, 0), (5, 3, 2, 0), (5, 0)),
    ((6, 4, 0), (6, 2, 0), (6, 7, 0), (6, 3, 7, 0), (6, 5, 0), (6, 0)),
    ((7, 2, 0), (7, 6, 0), (7, 4, 5, 0), (7, 5, 0), (7, 4, 0), (7, 0))))
ONE_MORE = Wishes((
    (), ((1, 5, 0), (1, 3, 2, 0), (1, 6, 2, 0), (1, 6, 0), (1, 7, 2, 0), (1, 0)),
    ((2, 1, 0), (2, 4, 0), (2, 6, 0), (2, 5, 0), (2, 4, 6, 0), (2, 0)),
    ((3, 7, 2, 0), (3, 6, 5, 0), (3, 1, 6, 0), (3, 4, 0), (3, 2, 0), (3, 0)),
    ((4, 3, 0), (4, 7, 3, 0), (4, 6, 0), (4, 5, 0), (4, 7, 0), (4, 0)),
    ((5, 3, 2, 0), (5, 6, 0), (5, 7, 1, 0), (5, 3, 0), (5, 6, 2, 0), (5, 0)),
    ((6, 5, 0), (6, 3, 0), (6, 2, 0), (6, 4, 5, 0), (6, 2, 5, 0), (6, 0)),
    ((7, 2, 4, 0), (7, 1, 0), (7, 6, 0), (7, 2, 0), (7, 3, 0), (7, 0))))


def turned(*jumps):
    """Wishes in which all routers have like ways: by routers so far on, the goal at once last."""
    lists = [()]
    for router in range(1, 8):
        ways = [(router,) + tuple((router - 1 + jump) % 7 + 1 for jump in row) + (0,) for row in jumps]
        lists.append(tuple(ways) + ((router, 0),))
    return Wishes(tuple(lists))


def some():
    return helper.tiny_wishes() + helper.some_wishes(61, 80, 3, 5, 3) + [BARE, LONE, APART, LONG, PLAIN, SWAP, BAD]


class RingsTest(unittest.TestCase):
    def test_known_ones(self):
        self.assertEqual(rings(SWAP), [RING])
        self.assertEqual(rings(BAD), [
            ((1, (1, 0), (1, 2, 0)), (2, (2, 0), (2, 3, 0)), (3, (3, 0), (3, 1, 0)))])
        for wishes in (PLAIN, BARE, LONE, APART, LONG):
            self.assertEqual(rings(wishes), [])

    def test_by_the_words(self):
        seen = 0
        for wishes in some() + [helper.wishes_with(5, 5, 5), helper.wishes_with(4, 4, 4, 3)]:
            told = rings(wishes)
            self.assertEqual(told, helper.rings_of(wishes))
            seen += len(told)
        self.assertGreater(seen, 100)

    def test_far_ways_that_end_with_an_own_way_further_on(self):
        wishes = Wishes(((), ((1, 3, 2, 0), (1, 0)), ((2, 1, 0), (2, 0)), ((3, 2, 0),)))
        told = ((1, (1, 0), (1, 3, 2, 0)), (2, (2, 0), (2, 1, 0)))
        self.assertEqual(rings(wishes), [told])
        self.assertIs(is_ring(wishes, told), True)

    def test_each_is_a_ring_wherever_it_begins(self):
        for wishes in some():
            for ring in rings(wishes):
                self.assertEqual(ring[0][0], min(item[0] for item in ring))
                for place in range(len(ring)):
                    self.assertIs(is_ring(wishes, ring[place:] + ring[:place]), True)

    def test_just_so_many(self):
        told = rings(JUST)
        self.assertEqual(len(told), 2000)
        self.assertEqual(told, sorted(set(told)))
        self.assertTrue(all(is_ring(JUST, ring) for ring in told))

    def test_too_many(self):
        for wishes in [ONE_MORE, turned((2,), (4,), (5,), (4, 2), (5, 2))]:
            with self.assertRaises(TooMany) as caught:
                rings(wishes)
            self.assertEqual(caught.exception.most, 2000)

    def test_judging_has_no_limit(self):
        ring = ((1, (1, 0), (1, 5, 0)), (5, (5, 0), (5, 6, 0)), (6, (6, 0), (6, 2, 0)), (2, (2, 0), (2, 1, 0)))
        self.assertIs(is_ring(ONE_MORE, ring), True)
        self.assertIs(is_ring(ONE_MORE, ring[::-1]), False)

    def test_what_is_no_ring(self):
        for wishes in (SWAP, BARE, PLAIN):
            for thing in helper.wrong_things() + [(), RING[:1], RING + RING, RING[:1] + RING, list(RING), RING[0]]:
                self.assertIs(is_ring(wishes, thing), False)
        for thing in helper.spoiled(RING):
            self.assertIs(is_ring(SWAP, thing), False)
        for thing in helper.spoiled(rings(BAD)[0]):
            self.assertIs(is_ring(BAD, thing), False)

    def test_all_pairs_of_items_judged(self):
        for wishes in (SWAP, PLAIN, helper.wishes_with(3, 3, 2)):
            ways = helper.ways_of(wishes)
            items = [(v, own, far) for v in range(wishes.size) for own in ways for far in ways]
            told = rings(wishes)
            right = [ring[place:] + ring[:place] for ring in told for place in range(len(ring))]
            for pair in itertools.product(items, items):
                self.assertIs(is_ring(wishes, pair), pair in right)

    def test_each_list_is_new_and_nothing_is_changed(self):
        look = helper.frozen(self, SWAP)
        told = rings(SWAP)
        told.append(None)
        self.assertEqual(rings(SWAP), [RING])
        look()


class LaddersTest(unittest.TestCase):
    def test_there_is_one_just_if_there_is_no_ring(self):
        seen = {True: 0, False: 0}
        for wishes in some() + helper.some_wishes(63, 20, 6, 8, 4):
            told = ladder(wishes)
            try:
                self.assertIs(told is None, rings(wishes) != [])
            except TooMany:
                self.assertIsNone(told)
            self.assertIs(is_ladder(wishes, told), told is not None)
            self.assertEqual(ladder(wishes), told)
            seen[told is None] += 1
        self.assertGreater(min(seen.values()), 5)

    def test_ladders_are_for_all_ways_and_ascending(self):
        for wishes in some():
            told = ladder(wishes)
            if told is not None:
                self.assertEqual(list(told), sorted(helper.ways_of(wishes)))
                self.assertTrue(all(type(rung) is int for rung in told.values()))

    def test_by_the_words(self):
        for wishes in some():
            told = ladder(wishes) or {}
            for own in told:
                ways = wishes.ways(own[0])
                for far in ways[:ways.index(own)]:
                    for low in told:
                        if low[0] != own[0] and far[-len(low):] == low:
                            self.assertLess(told[low], told[own])

    def test_without_ways(self):
        self.assertEqual(ladder(BARE), {})
        self.assertIs(is_ladder(BARE, {}), True)
        self.assertIs(is_ladder(BARE, {(1, 0): 1}), False)
        self.assertIs(is_ladder(LONE, {}), False)

    def test_small_ladders(self):
        self.assertIs(is_ladder(PLAIN, {(1, 0): 0, (2, 1, 0): 0, (2, 0): 1}), True)
        self.assertIs(is_ladder(PLAIN, {(2, 0): -4, (2, 1, 0): 10 ** 29, (1, 0): -5}), True)
        self.assertIs(is_ladder(PLAIN, {(1, 0): 0, (2, 1, 0): 0, (2, 0): 0}), False)
        self.assertIs(is_ladder(PLAIN, {(1, 0): 1, (2, 1, 0): 2, (2, 0): 0}), False)
        self.assertIs(is_ladder(PLAIN, {(1, 0): 0, (2, 0): 1}), False)
        self.assertIs(is_ladder(PLAIN, {(1, 0): 0, (2, 1, 0): 0, (2, 0): 1, (1, 2, 0): 0}), False)

    def test_numbers_of_all_orders(self):
        for wishes in (SWAP, PLAIN, helper.wishes_with(2, 1, 1)):
            ways = helper.ways_of(wishes)
            found = False
            for numbers in itertools.product(range(len(ways)), repeat=len(ways)):
                found = is_ladder(wishes, dict(zip(ways, numbers))) or found
            self.assertIs(found, ladder(wishes) is not None)

    def test_wrong_keys(self):
        told = ladder(PLAIN)
        for thing in helper.wrong_things() + [(0,), (), (1, 2, 0), (3, 0), ((1, 0),)]:
            try:
                spoiled = {**told, thing: 5}
                other = {**{way: told[way] for way in told if way != (2, 1, 0)}, thing: 5}
            except TypeError:
                continue
            if len(spoiled) > len(told):
                self.assertIs(is_ladder(PLAIN, spoiled), False)
                self.assertIs(is_ladder(PLAIN, other), False)
        for way in told:
            for thing in helper.spoiled(way):
                less = {one: told[one] for one in told if one != way}
                try:
                    less[thing] = told[way]
                except TypeError:
                    continue
                self.assertIs(is_ladder(PLAIN, less), False)

    def test_wrong_worths(self):
        told = ladder(PLAIN)
        for way in told:
            for thing in helper.wrong_things():
                if not isinstance(thing, int) or isinstance(thing, bool):
                    self.assertIs(is_ladder(PLAIN, {**told, way: thing}), False)
        self.assertIs(is_ladder(PLAIN, {(1, 0): False, (2, 1, 0): 0, (2, 0): True}), False)

    def test_wrong_things(self):
        for wishes in (PLAIN, SWAP):
            for thing in helper.wrong_things() + [{}, list(ladder(PLAIN).items()), tuple(ladder(PLAIN))]:
                self.assertIs(is_ladder(wishes, thing), False)
        self.assertIs(is_ladder(SWAP, ladder(PLAIN)), False)
        self.assertIs(is_ladder(LONE, ladder(PLAIN)), False)

    def test_each_dict_is_new_and_nothing_is_changed(self):
        look = helper.frozen(self, PLAIN)
        told = ladder(PLAIN)
        kept = dict(told)
        is_ladder(PLAIN, told)
        self.assertEqual(told, kept)
        told.clear()
        self.assertEqual(ladder(PLAIN), kept)
        look()


if __name__ == "__main__":
    unittest.main()
