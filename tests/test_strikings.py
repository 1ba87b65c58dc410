import itertools
import unittest

from tests import helper
from tests.helper import APART, BAD, BARE, LONE, LONG, PLAIN, SWAP
from tests.test_reels import BY_CONDITIONS
from tests.test_rings import JUST, ONE_MORE
from wishreels.errors import TooMany
from wishreels.orderpapers import endless
from wishreels.outcomes import outcomes
from wishreels.reels import broken, least_reel, reels
from wishreels.rings import rings
from wishreels.settling import reached, settles, settles_anywhere
from wishreels.strikings import is_cure, is_strike_paper, least_cure, settles_struck, strike_paper
from wishreels.wishes import Wishes


def circle(many, size=8):
    """Wishes in which so many routers, from the last one down, wish to go by each other in a circle."""
    routers = list(range(size - many, size))
    lists = [()] * size
    for place, router in enumerate(routers):
        lists[router] = ((router, routers[(place + 1) % many], 0), (router, 0))
    return Wishes(tuple(lists))


def round_of_circle(wishes):
    """A round paper in which all choose and tell at once, again and again."""
    told = tuple(("tell",) + line for line in wishes.lines())
    chosen = tuple(("choose", router) for router in range(1, wishes.size))
    return (chosen, told + chosen + told + chosen)


# A circle of two that are not in the circle of six.
TWO_CIRCLES = Wishes((
    (), ((1, 2, 0), (1, 0)), ((2, 1, 0), (2, 3, 0), (2, 0)), ((3, 4, 0), (3, 0)), ((4, 5, 0), (4, 0)),
    ((5, 6, 0), (5, 0)), ((6, 7, 0), (6, 0)), ((7, 2, 0), (7, 0))))

# With (1, 2, 0) five more ways are lost, with (2, 1, 0) just itself.
DEAR = Wishes((
    (), ((1, 2, 0), (1, 0)), ((2, 1, 0), (2, 0)), ((3, 1, 2, 0),), ((4, 1, 2, 0),), ((5, 1, 2, 0),), ((6, 1, 2, 0),),
    ((7, 6, 1, 2, 0),)))


def sets_left(wishes):
    """All wishes that are left when ways are struck, each once."""
    ways = helper.ways_of(wishes)
    found = []
    for many in range(len(ways) + 1):
        for kept in itertools.combinations(ways, many):
            if all(len(way) == 2 or way[1:] in kept for way in kept):
                found.append(wishes.struck([way for way in ways if way not in kept]))
    return found


def small():
    """Wishes with few ways, among them such as have rings, but no reels."""
    found = [wishes for wishes in helper.some_wishes(84, 4000, 4, 5, 3) if rings(wishes) != [] and reels(wishes) == []]
    found += [Wishes(lists) for lists, _ in BY_CONDITIONS.values()] + helper.tiny_wishes()
    found += helper.some_wishes(81, 120, 3, 5, 3) + [BARE, LONE, APART, PLAIN, SWAP, BAD, circle(3)]
    return [wishes for wishes in found if len(helper.ways_of(wishes)) <= 9]


def is_paper_by_words(wishes, thing):
    """Whether a tuple of ways and steps, right ones, is a strike paper."""
    ways, ahead, around = thing
    left = wishes.struck(ways)
    first = helper.begin_of(left)
    for step in ahead:
        first = helper.behind(left, first, step)
    here, moved = first, False
    for step in around:
        later = helper.behind(left, here, step)
        moved = moved or later != here
        here = later
    return here == first and moved and set(helper.steps_of(left)) <= set(around)


class SettlesStruckTest(unittest.TestCase):
    def test_known_ones(self):
        for wishes in (PLAIN, BARE, LONE, APART, LONG):
            self.assertIs(settles_struck(wishes), True)
        for wishes in (SWAP, BAD, circle(7), TWO_CIRCLES):
            self.assertIs(settles_struck(wishes), False)

    def test_all_strikings_tried(self):
        seen = {True: 0, False: 0}
        for wishes in small():
            told = settles_struck(wishes)
            self.assertIs(told, all(settles(left) for left in sets_left(wishes)))
            seen[told] += rings(wishes) != []
        self.assertGreater(min(seen.values()), 10)

    def test_rings_that_are_no_reels_settle(self):
        lists, ring = BY_CONDITIONS[True, True, True, False]
        wishes = Wishes(lists)
        self.assertEqual(broken(wishes, ring), "tree")
        self.assertEqual(rings(wishes), [ring])
        self.assertIs(settles_struck(wishes), True)

    def test_without_a_reel_they_settle_from_any_stand(self):
        checked = 0
        for wishes in small():
            if settles_struck(wishes):
                try:
                    self.assertIs(settles_anywhere(wishes), True)
                    self.assertEqual(len(outcomes(wishes)), 1)
                    checked += 1
                except TooMany:
                    pass
        self.assertGreater(checked, 20)

    def test_too_many(self):
        self.assertIs(settles_struck(JUST), False)
        for function in (settles_struck, strike_paper, least_cure):
            with self.assertRaises(TooMany) as caught:
                function(ONE_MORE)
            self.assertEqual(caught.exception.most, 2000)


class StrikePaperTest(unittest.TestCase):
    def test_there_is_one_just_if_there_is_a_reel(self):
        found = 0
        for wishes in small() + helper.some_wishes(82, 60, 4, 8, 4):
            told = strike_paper(wishes)
            self.assertIs(told is None, reels(wishes) == [])
            self.assertIs(is_strike_paper(wishes, told), told is not None)
            self.assertEqual(strike_paper(wishes), told)
            if told is not None:
                self.assertTrue(is_paper_by_words(wishes, told))
                self.assertEqual(len(set(told[0])), len(told[0]))
                found += 1
        self.assertGreater(found, 40)

    def test_for_wishes_that_settle_but_not_under_all_strikings(self):
        wishes = Wishes(((), ((1, 3, 0), (1, 2, 0), (1, 0)), ((2, 1, 0), (2, 0)), ((3, 0),)))
        self.assertIs(settles(wishes), True)
        told = strike_paper(wishes)
        self.assertIs(is_strike_paper(wishes, told), True)
        self.assertNotEqual(told[0], ())
        self.assertIs(is_strike_paper(wishes, ((),) + told[1:]), False)

    def test_circles_with_too_many_stands(self):
        for many in (6, 7):
            with self.assertRaises(TooMany) as caught:
                strike_paper(circle(many))
            self.assertEqual(caught.exception.most, 4000)
        self.assertEqual(reached(circle(5, 6)), 1335)
        self.assertIs(is_strike_paper(circle(5), strike_paper(circle(5))), True)

    def test_reels_are_asked_in_order_till_one_goes_round(self):
        self.assertEqual(len(least_reel(TWO_CIRCLES)), 2)
        self.assertIn(6, [len(reel) for reel in reels(TWO_CIRCLES)])
        with self.assertRaises(TooMany):
            endless(TWO_CIRCLES)
        told = strike_paper(TWO_CIRCLES)
        self.assertTrue(is_paper_by_words(TWO_CIRCLES, told))
        left = TWO_CIRCLES.struck(told[0])
        self.assertEqual(reached(left), 19)

    def test_judging_has_no_limit(self):
        for wishes in (circle(6), circle(7)):
            paper = ((),) + round_of_circle(wishes)
            self.assertTrue(is_paper_by_words(wishes, paper))
            self.assertIs(is_strike_paper(wishes, paper), True)
        ways = [way for way in helper.ways_of(ONE_MORE) if way not in ((1, 5, 0), (5, 6, 0), (6, 5, 0), (5, 0), (6, 0))]
        left = ONE_MORE.struck(ways)
        self.assertIs(is_strike_paper(ONE_MORE, (tuple(ways),) + endless(left)), True)

    def test_other_right_papers(self):
        ahead, around = endless(SWAP)
        self.assertIs(is_strike_paper(SWAP, ((), ahead, around)), True)
        self.assertIs(is_strike_paper(SWAP, ((), ahead + around, around + around)), True)
        told = strike_paper(TWO_CIRCLES)
        self.assertIs(is_strike_paper(TWO_CIRCLES, (told[0][::-1],) + told[1:]), True)

    def test_wrong_papers(self):
        ahead, around = endless(SWAP)
        self.assertIs(is_strike_paper(SWAP, ((), ahead, ())), False)
        self.assertIs(is_strike_paper(SWAP, ((), (), ())), False)
        self.assertIs(is_strike_paper(SWAP, (((1, 2, 0),), ahead, around)), False)
        self.assertIs(is_strike_paper(SWAP, ((), ahead)), False)
        self.assertIs(is_strike_paper(SWAP, ((), ahead, around, ())), False)
        self.assertIs(is_strike_paper(SWAP, [(), ahead, around]), False)
        self.assertIs(is_strike_paper(SWAP, ([], ahead, around)), False)
        self.assertIs(is_strike_paper(PLAIN, ((), ahead, around)), False)
        for step in set(around):
            less = tuple(one for one in around if one != step)
            self.assertIs(is_strike_paper(SWAP, ((), ahead, less)), False)

    def test_ways_that_stand_twice_or_are_not_let(self):
        told = strike_paper(TWO_CIRCLES)
        self.assertIs(is_strike_paper(TWO_CIRCLES, (told[0] + told[0][:1],) + told[1:]), False)
        self.assertIs(is_strike_paper(TWO_CIRCLES, (told[0] + ((1, 3, 0),),) + told[1:]), False)
        self.assertIs(is_strike_paper(TWO_CIRCLES, (told[0] + ((0,),),) + told[1:]), False)

    def test_wrong_things(self):
        paper = strike_paper(TWO_CIRCLES.struck([(7, 0), (6, 0), (5, 0)]))
        wishes = TWO_CIRCLES.struck([(7, 0), (6, 0), (5, 0)])
        self.assertIs(is_strike_paper(wishes, paper), True)
        for thing in helper.wrong_things():
            self.assertIs(is_strike_paper(wishes, thing), False)
            for place in range(3):
                spoiled = paper[:place] + (thing,) + paper[place + 1:]
                self.assertIs(is_strike_paper(wishes, spoiled), False)
        for way in helper.spoiled(paper[0]):
            try:
                right = isinstance(way, tuple) and len(set(way)) == len(way) and set(way) <= set(paper[0])
            except TypeError:
                right = False
            if not right or any(type(router) is bool for item in way for router in item):
                self.assertIs(is_strike_paper(wishes, (way,) + paper[1:]), False)

    def test_nothing_is_changed(self):
        paper = strike_paper(SWAP)
        look = helper.frozen(self, SWAP, paper)
        is_strike_paper(SWAP, paper)
        settles_struck(SWAP)
        look()


def losses(wishes, cure):
    """The let ways that are lost by a cure."""
    return [way for way in helper.ways_of(wishes) if any(way[-len(one):] == one for one in cure)]


def is_cure_by_words(wishes, ways):
    apart = not any(one != other and one[-len(other):] == other for one in ways for other in ways)
    return apart and list(ways) == sorted(set(ways)) and reels(wishes.struck(ways)) == []


class CuresTest(unittest.TestCase):
    def test_known_ones(self):
        for wishes in (PLAIN, BARE, LONE, APART, LONG):
            self.assertEqual(least_cure(wishes), ())
            self.assertIs(is_cure(wishes, ()), True)
        self.assertIn(least_cure(SWAP), [((1, 2, 0),), ((2, 1, 0),)])
        self.assertEqual(least_cure(DEAR), ((2, 1, 0),))
        self.assertIs(is_cure(DEAR, ((1, 2, 0),)), True)
        self.assertEqual(len(losses(circle(7), least_cure(circle(7)))), 1)

    def test_as_few_as_can_be_are_lost(self):
        sizes = {}
        for wishes in small():
            told = least_cure(wishes)
            self.assertTrue(is_cure_by_words(wishes, told))
            self.assertIs(is_cure(wishes, told), True)
            many = len(helper.ways_of(wishes))
            least = min(many - len(helper.ways_of(left)) for left in sets_left(wishes) if reels(left) == [])
            self.assertEqual(len(losses(wishes, told)), least)
            sizes[least] = sizes.get(least, 0) + 1
        self.assertGreater(len(sizes), 2)

    def test_of_many_reels(self):
        for wishes in [JUST] + helper.some_wishes(83, 40, 6, 8, 6):
            told = least_cure(wishes)
            self.assertIs(is_cure(wishes, told), True)
            self.assertEqual(least_cure(wishes), told)
            for way in told:
                less = [one for one in losses(wishes, told) if one != way]
                self.assertNotEqual(reels(wishes.struck(less)), [])

    def test_cures_by_which_several_ways_are_lost_at_once(self):
        wishes = Wishes((
            (), ((1, 2, 0), (1, 0)), ((2, 3, 0), (2, 1, 0), (2, 0)), ((3, 1, 2, 0), (3, 0)), ((4, 1, 2, 0), (4, 0))))
        told = least_cure(wishes)
        best = min(len(losses(wishes, ways)) for many in range(4)
                   for ways in itertools.combinations(sorted(helper.ways_of(wishes)), many)
                   if is_cure_by_words(wishes, ways))
        self.assertEqual(len(losses(wishes, told)), best)

    def test_all_tuples_of_ways_judged(self):
        pivot = Wishes(BY_CONDITIONS[True, False, True, True][0])
        for wishes in [SWAP, PLAIN, BAD, DEAR.failed([(7, 6), (5, 1), (4, 1)]), pivot]:
            ways = helper.ways_of(wishes)
            seen = {True: 0, False: 0}
            for many in range(4):
                for row in itertools.product(ways, repeat=many):
                    told = is_cure(wishes, row)
                    self.assertIs(told, is_cure_by_words(wishes, row))
                    seen[told] += 1
            self.assertGreater(min(seen.values()), 1)

    def test_an_end_of_another_one(self):
        self.assertIs(is_cure(DEAR, ((1, 2, 0), (2, 1, 0))), True)
        self.assertIs(is_cure(DEAR, ((1, 2, 0), (6, 1, 2, 0))), False)
        self.assertIs(is_cure(DEAR, ((1, 2, 0), (7, 6, 1, 2, 0))), False)
        self.assertIs(is_cure(DEAR, ((1, 2, 0), (2, 0))), False)
        self.assertIs(is_cure(DEAR, ((2, 1, 0), (1, 2, 0))), False)

    def test_wrong_things(self):
        for wishes in (PLAIN, SWAP, BARE):
            for thing in helper.wrong_things() + [[], [(1, 2, 0)], ((1, 2, 0), (1, 2, 0)), ((0,),), (1, 2, 0)]:
                self.assertIs(is_cure(wishes, thing), False)
        for thing in helper.spoiled(((1, 2, 0), (2, 1, 0))):
            self.assertIs(is_cure(SWAP, thing), False)

    def test_too_many_rings_are_left(self):
        for ways in [(), ((1, 6, 2, 0),)]:
            left = ONE_MORE.struck(ways)
            try:
                many = len(rings(left))
            except TooMany:
                with self.assertRaises(TooMany) as caught:
                    is_cure(ONE_MORE, ways)
                self.assertEqual(caught.exception.most, 2000)
            else:
                self.assertLessEqual(many, 2000)
                self.assertIs(is_cure(ONE_MORE, ways), False)
        with self.assertRaises(TooMany):
            is_cure(ONE_MORE, ())
        for thing in [None, [], ((0,),), ((9, 0),), ((1, 0), (1, 0)), ((2, 0), (1, 0)), ((2, 0), (3, 2, 0))]:
            self.assertIs(is_cure(ONE_MORE, thing), False)
        self.assertIs(is_cure(ONE_MORE, tuple((router, 0) for router in range(1, 8))), True)

    def test_nothing_is_changed(self):
        look = helper.frozen(self, DEAR, [(2, 1, 0)])
        least_cure(DEAR)
        is_cure(DEAR, ((2, 1, 0),))
        look()


if __name__ == "__main__":
    unittest.main()
