import unittest

from tests import helper
from tests.helper import APART, BAD, BARE, LONE, LONG, PLAIN, SWAP
from tests.test_rings import JUST, ONE_MORE
from wishreels.errors import BadRing, TooMany
from wishreels.reels import broken, least_reel, reels
from wishreels.rings import rings
from wishreels.wishes import Wishes

SWAP_REEL = ((1, (1, 0), (1, 2, 0)), (2, (2, 0), (2, 1, 0)))
BAD_REEL = ((1, (1, 0), (1, 2, 0)), (2, (2, 0), (2, 3, 0)), (3, (3, 0), (3, 1, 0)))

# Wishes with a ring, by which of the conditions hold for it: of the pivots the one on own ways and
# the one on rims, then that on spokes, then that on the tree.
BY_CONDITIONS = {
    (True, True, True, True): (
        ((), ((1, 3, 0), (1, 0)), (), ((3, 1, 0), (3, 0))),
        ((1, (1, 0), (1, 3, 0)), (3, (3, 0), (3, 1, 0)))),
    (True, True, True, False): (
        ((), ((1, 3, 2, 4, 0), (1, 2, 0)), ((2, 4, 0), (2, 0)), ((3, 1, 2, 0), (3, 2, 4, 0)), ((4, 0),)),
        ((1, (1, 2, 0), (1, 3, 2, 4, 0)), (3, (3, 2, 4, 0), (3, 1, 2, 0)))),
    (True, True, False, True): (
        ((), ((1, 2, 4, 0), (1, 0)), ((2, 4, 1, 0), (2, 4, 0)), (), ((4, 1, 0), (4, 0))),
        ((1, (1, 0), (1, 2, 4, 0)), (2, (2, 4, 0), (2, 4, 1, 0)))),
    (True, True, False, False): (
        ((), ((1, 4, 2, 3, 0), (1, 2, 0)), ((2, 3, 0), (2, 0)), ((3, 0), (3, 1, 2, 0)), ((4, 3, 1, 2, 0), (4, 2, 3, 0))),
        ((1, (1, 2, 0), (1, 4, 2, 3, 0)), (4, (4, 2, 3, 0), (4, 3, 1, 2, 0)))),
    (True, False, True, True): (
        ((), ((1, 4, 0), (1, 0), (1, 3, 0)), (), ((3, 1, 0), (3, 0)), ((4, 1, 3, 0), (4, 0))),
        ((1, (1, 0), (1, 4, 0)), (4, (4, 0), (4, 1, 3, 0)), (3, (3, 0), (3, 1, 0)))),
    (True, False, True, False): (
        ((), ((1, 3, 2, 0), (1, 5, 0)), ((2, 0),), ((3, 4, 5, 2, 0), (3, 1, 5, 0), (3, 2, 0)),
         ((4, 3, 1, 5, 0), (4, 5, 2, 0)), ((5, 2, 0), (5, 0))),
        ((1, (1, 5, 0), (1, 3, 2, 0)), (3, (3, 2, 0), (3, 4, 5, 2, 0)), (4, (4, 5, 2, 0), (4, 3, 1, 5, 0)))),
    (True, False, False, True): (
        ((), ((1, 2, 5, 0), (1, 0)), ((2, 5, 1, 0), (2, 3, 5, 0), (2, 5, 0)), ((3, 2, 5, 1, 0), (3, 5, 0)), (),
         ((5, 1, 0), (5, 0))),
        ((1, (1, 0), (1, 2, 5, 0)), (2, (2, 5, 0), (2, 3, 5, 0)), (3, (3, 5, 0), (3, 2, 5, 1, 0)))),
    (False, True, True, True): (
        ((), ((1, 5, 0),), ((2, 1, 5, 0), (2, 5, 0)), ((3, 2, 5, 0), (3, 0)), (), ((5, 3, 0), (5, 0))),
        ((2, (2, 5, 0), (2, 1, 5, 0)), (5, (5, 0), (5, 3, 0)), (3, (3, 0), (3, 2, 5, 0)))),
    (False, True, True, False): (
        ((), ((1, 4, 2, 0), (1, 4, 0)), ((2, 0),), ((3, 1, 4, 0), (3, 0)), ((4, 3, 0), (4, 2, 0), (4, 0))),
        ((1, (1, 4, 0), (1, 4, 2, 0)), (4, (4, 2, 0), (4, 3, 0)), (3, (3, 0), (3, 1, 4, 0)))),
    (False, True, False, True): (
        ((), ((1, 4, 3, 0), (1, 2, 0)), ((2, 3, 0), (2, 0)), ((3, 1, 2, 0), (3, 0)), ((4, 2, 3, 0), (4, 3, 0))),
        ((1, (1, 2, 0), (1, 4, 3, 0)), (4, (4, 3, 0), (4, 2, 3, 0)), (3, (3, 0), (3, 1, 2, 0)))),
    (False, True, False, False): (
        ((), ((1, 4, 0), (1, 0)), (), ((3, 1, 4, 0), (3, 4, 1, 0)), ((4, 5, 0), (4, 0), (4, 1, 0)),
         ((5, 3, 4, 1, 0), (5, 0))),
        ((3, (3, 4, 1, 0), (3, 1, 4, 0)), (4, (4, 0), (4, 5, 0)), (5, (5, 0), (5, 3, 4, 1, 0)))),
    (False, False, True, True): (
        ((), (), ((2, 3, 4, 0), (2, 4, 0)), ((3, 2, 4, 0), (3, 0), (3, 4, 0)), ((4, 3, 0), (4, 0))),
        ((2, (2, 4, 0), (2, 3, 4, 0)), (4, (4, 0), (4, 3, 0)), (3, (3, 0), (3, 2, 4, 0)))),
    (False, False, True, False): (
        ((), ((1, 3, 0), (1, 2, 3, 0), (1, 2, 0)), ((2, 0), (2, 1, 3, 0), (2, 3, 0)), ((3, 1, 2, 0), (3, 0))),
        ((1, (1, 2, 0), (1, 2, 3, 0)), (2, (2, 3, 0), (2, 1, 3, 0)), (3, (3, 0), (3, 1, 2, 0)))),
    (False, False, False, True): (
        ((), ((1, 3, 0), (1, 0)), ((2, 3, 5, 1, 0), (2, 5, 1, 0)), ((3, 2, 5, 1, 0), (3, 0), (3, 5, 1, 0)), (),
         ((5, 1, 0),)),
        ((1, (1, 0), (1, 3, 0)), (3, (3, 0), (3, 2, 5, 1, 0)), (2, (2, 5, 1, 0), (2, 3, 5, 1, 0)))),
    (False, False, False, False): (
        ((), ((1, 3, 4, 0),), ((2, 3, 4, 5, 0), (2, 4, 5, 0)), ((3, 2, 4, 5, 0), (3, 4, 0), (3, 4, 5, 0)),
         ((4, 0), (4, 5, 0)), ((5, 1, 3, 4, 0), (5, 0))),
        ((2, (2, 4, 5, 0), (2, 3, 4, 5, 0)), (5, (5, 0), (5, 1, 3, 4, 0)), (3, (3, 4, 0), (3, 2, 4, 5, 0)))),
}


def conditions(ring):
    """Which of the conditions hold for a ring, by the words of the document."""
    places = range(len(ring))
    routers = [item[0] for item in ring]
    owns = [item[1] for item in ring]
    rims = [far[:len(far) - len(owns[at + 1 - len(ring)]) + 1] for at, (_, _, far) in enumerate(ring)]
    others = [router for router in range(8) if router not in routers]
    return (
        not any(routers[a] in owns[b] for a in places for b in places if a != b),
        not any(routers[a] in rims[b] for a in places for b in places if b not in (a, (a - 1) % len(ring))),
        not any(x in own and x in rim for x in others for own in owns for rim in rims),
        all(a[a.index(x):] == b[b.index(x):] for a in owns for b in owns for x in a if x in b))


def word(ring):
    own, rim, spoke, tree = conditions(ring)
    if not own or not rim:
        return "pivot"
    return None if spoke and tree else "tree" if spoke else "spoke"


def some():
    known = [Wishes(lists) for lists, _ in BY_CONDITIONS.values()]
    return known + helper.some_wishes(71, 150, 3, 6, 4) + [BARE, LONE, APART, LONG, PLAIN, SWAP, BAD]


class BrokenTest(unittest.TestCase):
    def test_each_condition_by_itself_and_together(self):
        for held, (lists, ring) in BY_CONDITIONS.items():
            self.assertEqual(conditions(ring), held)
            wishes = Wishes(lists)
            for place in range(len(ring)):
                self.assertEqual(broken(wishes, ring[place:] + ring[:place]), word(ring))

    def test_the_first_word(self):
        told = {held: broken(Wishes(lists), ring) for held, (lists, ring) in BY_CONDITIONS.items()}
        self.assertIsNone(told[True, True, True, True])
        self.assertEqual(told[True, True, True, False], "tree")
        self.assertEqual(told[True, True, False, True], "spoke")
        self.assertEqual(told[True, True, False, False], "spoke")
        for held in told:
            if not held[0] or not held[1]:
                self.assertEqual(told[held], "pivot")

    def test_known_reels(self):
        self.assertIsNone(broken(SWAP, SWAP_REEL))
        self.assertIsNone(broken(SWAP, SWAP_REEL[::-1]))
        self.assertIsNone(broken(BAD, BAD_REEL))

    def test_by_the_words(self):
        seen = {}
        for wishes in some():
            for ring in rings(wishes):
                told = broken(wishes, ring)
                self.assertEqual(told, word(ring))
                seen[told] = seen.get(told, 0) + 1
        self.assertEqual(set(seen), {None, "pivot", "spoke", "tree"})

    def test_what_is_no_ring(self):
        for wishes in (SWAP, BARE, PLAIN):
            for thing in helper.wrong_things() + [(), SWAP_REEL[:1], SWAP_REEL * 2, list(SWAP_REEL), BAD_REEL]:
                with self.assertRaises(BadRing):
                    broken(wishes, thing)
        for thing in helper.spoiled(SWAP_REEL):
            with self.assertRaises(BadRing):
                broken(SWAP, thing)

    def test_there_is_no_limit(self):
        ring = ((1, (1, 0), (1, 5, 0)), (5, (5, 0), (5, 6, 0)), (6, (6, 0), (6, 2, 0)), (2, (2, 0), (2, 1, 0)))
        self.assertIsNone(broken(ONE_MORE, ring))


class ReelsTest(unittest.TestCase):
    def test_known_ones(self):
        self.assertEqual(reels(SWAP), [SWAP_REEL])
        self.assertEqual(reels(BAD), [BAD_REEL])
        for wishes in (PLAIN, BARE, LONE, APART, LONG):
            self.assertEqual(reels(wishes), [])

    def test_by_the_words(self):
        for wishes in some():
            self.assertEqual(reels(wishes), [ring for ring in helper.rings_of(wishes) if word(ring) is None])

    def test_of_just_so_many_rings(self):
        told = reels(JUST)
        self.assertEqual(told, [ring for ring in rings(JUST) if word(ring) is None])
        self.assertGreater(len(told), 100)

    def test_too_many(self):
        for function in (reels, least_reel):
            with self.assertRaises(TooMany) as caught:
                function(ONE_MORE)
            self.assertEqual(caught.exception.most, 2000)

    def test_each_list_is_new_and_nothing_is_changed(self):
        look = helper.frozen(self, SWAP, SWAP_REEL)
        reels(SWAP).append(None)
        self.assertEqual(reels(SWAP), [SWAP_REEL])
        broken(SWAP, SWAP_REEL)
        least_reel(SWAP)
        look()


class LeastReelTest(unittest.TestCase):
    def test_known_ones(self):
        self.assertEqual(least_reel(SWAP), SWAP_REEL)
        self.assertEqual(least_reel(BAD), BAD_REEL)
        for wishes in (PLAIN, BARE, LONE):
            self.assertIsNone(least_reel(wishes))

    def test_by_the_words(self):
        moved = 0
        for wishes in some() + [JUST]:
            found = [ring for ring in rings(wishes) if word(ring) is None]
            least = min(found, key=lambda ring: (len(ring), sum(len(far) for _, _, far in ring), ring), default=None)
            self.assertEqual(least_reel(wishes), least)
            moved += found != [] and least != found[0]
        self.assertGreater(moved, 5)

    def test_fewer_items_then_shorter_far_ways_then_order(self):
        lists = ((), ((1, 2, 0), (1, 0)), ((2, 3, 0), (2, 4, 0), (2, 0)), ((3, 1, 0), (3, 4, 0), (3, 0)),
                 ((4, 3, 0), (4, 0)))
        self.assertEqual(least_reel(Wishes(lists)), ((3, (3, 0), (3, 4, 0)), (4, (4, 0), (4, 3, 0))))
        longer = ((), ((1, 3, 2, 0), (1, 0)), ((2, 1, 0), (2, 0)), ((3, 2, 0), (3, 0)), ((4, 5, 0), (4, 0)),
                  ((5, 4, 0), (5, 0)))
        self.assertEqual(reels(Wishes(longer))[0][0][0], 1)
        self.assertEqual(least_reel(Wishes(longer)), ((4, (4, 0), (4, 5, 0)), (5, (5, 0), (5, 4, 0))))
        alike = ((), ((1, 2, 0), (1, 0)), ((2, 1, 0), (2, 0)), ((3, 4, 0), (3, 0)), ((4, 3, 0), (4, 0)))
        self.assertEqual(least_reel(Wishes(alike)), SWAP_REEL)


if __name__ == "__main__":
    unittest.main()
