import itertools
import unittest

from tests import helper
from tests.helper import APART, BAD, BARE, LONE, LONG, PLAIN, SWAP
from wishreels.errors import BadLinks, BadWays, BadWishes, NoRouter
from wishreels.wishes import Wishes


def lists_with(router, item, size=3):
    """Right lists, but with this item for a router."""
    lists = [()] + [((v, 0),) for v in range(1, size)]
    lists[router] = item
    return tuple(lists)


class MadeTest(unittest.TestCase):
    def refused(self, lists, router):
        with self.assertRaises(BadWishes) as caught:
            Wishes(lists)
        self.assertEqual(caught.exception.router, router)
        self.assertIs(type(caught.exception.router), int)

    def test_ordinary(self):
        self.assertEqual(SWAP.size, 3)
        self.assertEqual(SWAP.ways(0), ())
        self.assertEqual(SWAP.ways(1), ((1, 2, 0), (1, 0)))
        self.assertEqual(SWAP.ways(2), ((2, 1, 0), (2, 0)))

    def test_two_and_eight_routers(self):
        self.assertEqual(BARE.size, 2)
        self.assertEqual(Wishes(((),) * 8).size, 8)
        self.assertEqual(LONG.ways(7), ((7, 6, 5, 4, 3, 2, 1, 0),))
        for lists in [(), ((),), ((),) * 9, ((),) * 100]:
            self.refused(lists, -1)

    def test_no_tuple(self):
        for thing in helper.wrong_things():
            if not isinstance(thing, tuple) or not 2 <= len(thing) <= 8:
                self.refused(thing, -1)
        self.refused([(), ((1, 0),)], -1)

    def test_wrong_items(self):
        for router in range(3):
            for thing in helper.wrong_things():
                self.refused(lists_with(router, thing), router)

    def test_the_goal_has_no_ways(self):
        for item in [((0,),), ((1, 0),), [], ((),), None, "", {}]:
            self.refused(lists_with(0, item), 0)

    def test_wrong_ways(self):
        for thing in helper.wrong_things() + [(), (2, 0), (1, 2), (1, 3, 0), (1, 2, 1, 0), (1, 0, 2, 0), (1, 0, 2)]:
            self.refused(lists_with(1, (thing,)), 1)
            self.refused(lists_with(1, ((1, 0), thing)), 1)
            self.refused(lists_with(2, ((2, 0), thing)), 2)
        self.refused(lists_with(1, [(1, 0)]), 1)
        self.refused(lists_with(1, ([1, 0],)), 1)
        self.refused(lists_with(2, ((2, True, 0), (2, 0))), 2)
        self.refused(lists_with(2, ((2, 1, False), (2, 0))), 2)
        self.refused(lists_with(1, ((1, 0), (1, 0))), 1)
        self.refused(((), tuple(tuple(range(k)) for k in range(7))), 1)

    def test_too_long_a_way(self):
        lists = list(helper.lists_of(LONG))
        lists[7] = ((7, 6, 5, 4, 3, 2, 1, 8, 0),)
        self.refused(tuple(lists), 7)
        lists[7] = ((7, 6, 5, 4, 3, 2, 1, 0, 0),)
        self.refused(tuple(lists), 7)

    def test_zero_to_six_ways(self):
        six = ((1, 0),) + tuple((1, v, 0) for v in range(2, 7))
        others = tuple(((v, 0),) for v in range(2, 8))
        self.assertEqual(Wishes(((), six) + others).ways(1), six)
        self.refused(((), six + ((1, 7, 0),)) + others, 1)
        self.assertEqual(Wishes(((), ()) + others).ways(1), ())

    def test_rests_are_let(self):
        self.refused(((), ((1, 2, 0),), ()), 1)
        self.refused(((), ((1, 2, 0),), ((2, 1, 0),)), 1)
        self.refused(((), ((1, 0),), ((2, 3, 1, 0),), ((3, 0),)), 2)
        self.refused(((), ((1, 2, 0),), ((2, 0),), ((3, 1, 0), (3, 2, 1, 0))), 3)

    def test_items_come_ahead_of_rests(self):
        self.refused(((), ((1, 2, 0),), (), None), 3)
        self.refused(((), ((1, 2, 0),), (), ((3, 0), (3, 0))), 3)
        self.refused(((), ((1, 2, 0),), ((2, 3, 0),), ()), 1)
        self.refused((None, None), 0)

    def test_flags_are_no_routers(self):
        self.refused(((), ((True, 0),)), 1)
        self.refused(((), ((1, False),)), 1)

    def test_spoiled_lists(self):
        for lists in [helper.lists_of(SWAP), helper.lists_of(BAD)]:
            for thing in helper.spoiled(lists):
                with self.assertRaises(BadWishes):
                    Wishes(thing)

    def test_equal_just_if_the_lists_are(self):
        self.assertEqual(SWAP, Wishes(helper.lists_of(SWAP)))
        self.assertFalse(SWAP != Wishes(helper.lists_of(SWAP)))
        self.assertNotEqual(SWAP, Wishes(((), ((1, 0), (1, 2, 0)), ((2, 1, 0), (2, 0)))))
        self.assertNotEqual(BARE, Wishes(((), (), ())))
        for one, other in itertools.combinations(helper.tiny_wishes(), 2):
            self.assertNotEqual(one, other)
        for thing in helper.wrong_things() + [helper.lists_of(SWAP), PLAIN]:
            if not isinstance(thing, Wishes) or thing is PLAIN:
                self.assertFalse(SWAP == thing)
                self.assertTrue(SWAP != thing)

    def test_ways_of_what_is_no_router(self):
        for thing in helper.wrong_things() + [3, 8, -3, (), (1,)]:
            with self.assertRaises(NoRouter) as caught:
                SWAP.ways(thing)
            self.assertIs(caught.exception.router, thing)


class LinesTest(unittest.TestCase):
    def test_lines(self):
        self.assertEqual(SWAP.lines(), [(1, 2), (2, 1)])
        self.assertEqual(BAD.lines(), [(1, 3), (2, 1), (3, 2)])
        self.assertEqual(PLAIN.lines(), [(1, 2)])
        for wishes in (BARE, LONE, APART):
            self.assertEqual(wishes.lines(), [])
        self.assertEqual(LONG.lines(), [(v, v + 1) for v in range(1, 7)])

    def test_a_line_stands_once(self):
        wishes = Wishes(((), ((1, 2, 0), (1, 0)), ((2, 0), (2, 1, 0)), ((3, 1, 2, 0), (3, 1, 0))))
        self.assertEqual(wishes.lines(), [(1, 2), (1, 3), (2, 1)])

    def test_by_their_words(self):
        for wishes in helper.some_wishes(1, 60, 2, 8, 6):
            lines = wishes.lines()
            self.assertEqual(lines, sorted({(way[1], way[0]) for way in helper.ways_of(wishes) if way[1]}))

    def test_the_list_is_new(self):
        lines = SWAP.lines()
        lines.clear()
        self.assertEqual(SWAP.lines(), [(1, 2), (2, 1)])


class StruckTest(unittest.TestCase):
    def test_with_the_ends(self):
        self.assertEqual(SWAP.struck([(1, 0)]), Wishes(((), ((1, 2, 0),), ((2, 0),))))
        self.assertEqual(SWAP.struck(((1, 2, 0), (2, 1, 0))), Wishes(((), ((1, 0),), ((2, 0),))))
        self.assertEqual(LONG.struck([(2, 1, 0)]), Wishes(((), ((1, 0),)) + ((),) * 6))
        self.assertEqual(LONG.struck([(1, 0)]), Wishes(((),) * 8))

    def test_no_ways_at_all(self):
        for row in ([], ()):
            self.assertEqual(SWAP.struck(row), SWAP)
            self.assertEqual(BARE.struck(row), BARE)

    def test_an_end_and_what_has_it(self):
        self.assertEqual(SWAP.struck([(1, 0), (2, 1, 0)]), SWAP.struck([(1, 0)]))

    def test_by_its_words(self):
        for wishes in helper.some_wishes(2, 40, 3, 8, 6):
            ways = helper.ways_of(wishes)
            for row in [ways[:1], ways[::3], ways[1:6:2], ways]:
                left = wishes.struck(row)
                for router in range(wishes.size):
                    self.assertEqual(left.ways(router), tuple(
                        way for way in wishes.ways(router) if not any(way[-len(one):] == one for one in row)))

    def test_wrong_rows(self):
        for thing in helper.wrong_things():
            if thing != [(1, 0)]:
                with self.assertRaises(BadWays):
                    SWAP.struck(thing)
        for row in ({(1, 0): True}, {(1, 0)}, (1, 0), (2, 1, 0), iter([(1, 0)]), "10"):
            with self.assertRaises(BadWays):
                SWAP.struck(row)

    def test_wrong_ways(self):
        more = [(), (0,), (3, 0), (1, 3, 0), (1, 2), (2, 0, 1), [2, 0], (2.0, 0), (1, 0), (-1, 0), (8, 0)]
        for thing in helper.wrong_things() + more:
            for row in ([(1, 0), thing], ((1, 0), thing)):
                with self.assertRaises(BadWays):
                    SWAP.struck(row)
        with self.assertRaises(BadWays):
            PLAIN.struck([(1, 2, 0)])
        with self.assertRaises(BadWays):
            BARE.struck([(1, 0)])

    def test_nothing_is_changed(self):
        row = [(1, 0), (2, 0)]
        look = helper.frozen(self, SWAP, row)
        SWAP.struck(row)
        look()


class FailedTest(unittest.TestCase):
    def test_either_order(self):
        for link in [(1, 2), (2, 1)]:
            self.assertEqual(SWAP.failed([link]), Wishes(((), ((1, 0),), ((2, 0),))))
        for link in [(0, 1), (1, 0)]:
            self.assertEqual(SWAP.failed((link,)), Wishes(((), ((1, 2, 0),), ((2, 0),))))
        self.assertEqual(LONG.failed([(3, 4)]), Wishes(helper.lists_of(LONG)[:4] + ((),) * 4))

    def test_none_alike_and_twice(self):
        for row in ([], (), [(1, 1)], ((0, 0), (2, 2))):
            self.assertEqual(SWAP.failed(row), SWAP)
        self.assertEqual(SWAP.failed([(1, 2), (1, 2), (2, 1)]), SWAP.failed([(1, 2)]))
        self.assertEqual(SWAP.failed([(1, 0), (0, 2)]), Wishes(((), (), ())))

    def test_beside_each_other_only(self):
        self.assertEqual(LONG.failed([(7, 5), (0, 2), (1, 3)]), LONG)

    def test_by_its_words(self):
        for wishes in helper.some_wishes(3, 40, 3, 8, 6):
            for links in [[(1, 2)], [(2, 0), (1, 2)], [(0, 1)]]:
                left = wishes.failed(links)
                for router in range(wishes.size):
                    kept = [way for way in wishes.ways(router) if not any(
                        {a, b} == {c, d} for a, b in zip(way, way[1:]) for c, d in links)]
                    self.assertEqual(left.ways(router), tuple(kept))

    def test_wrong_rows_and_links(self):
        for thing in helper.wrong_things():
            if thing != [(1, 0)]:
                with self.assertRaises(BadLinks):
                    SWAP.failed(thing)
        for thing in helper.wrong_things() + [(3, 0), (0, 3), (1, -1), (1, 2, 0), [1, 2], (1.0, 2), ()]:
            if thing not in ((0, 1), (0, 0)):
                for row in ([(1, 2), thing], ((1, 2), thing)):
                    with self.assertRaises(BadLinks):
                        SWAP.failed(row)
        for row in ({(1, 2): True}, {(1, 2)}, (1, 2), "12", iter([(1, 2)])):
            with self.assertRaises(BadLinks):
                SWAP.failed(row)

    def test_nothing_is_changed(self):
        row = [(1, 2), (2, 2)]
        look = helper.frozen(self, SWAP, row)
        SWAP.failed(row)
        look()


if __name__ == "__main__":
    unittest.main()
