import itertools
import unittest

from tests import helper
from tests.helper import APART, BAD, BARE, LONE, LONG, PLAIN, SWAP
from wishreels.errors import BadTaking, TooMany
from wishreels.orderpapers import endless, ranks
from wishreels.outcomes import outcomes
from wishreels.rings import ladder
from wishreels.settling import comes, reached, settles, settles_anywhere
from wishreels.talks import Talk, due, steps
from wishreels.wishes import Wishes

# Three routers with 500 reached stands; each further one that is by itself doubles their number.
FIVE_HUNDRED = ((), ((1, 2, 0), (1, 0)), ((2, 3, 1, 0), (2, 1, 0), (2, 0)), ((3, 1, 0), (3, 2, 1, 0)))
JUST = Wishes(FIVE_HUNDRED + (((4, 0),), ((5, 0),), ((6, 0),)))
ONE_MORE = Wishes((
    (), ((1, 3, 0), (1, 2, 0), (1, 0)), ((2, 1, 3, 0), (2, 3, 1, 0), (2, 1, 0), (2, 0), (2, 3, 0)),
    ((3, 1, 0), (3, 0), (3, 1, 2, 0), (3, 2, 0))))
MUCH_MORE = helper.wishes_with(*(6,) * 7)

# No wishes have just 4000 stands; these have 3888 of them, and 4096.
FEWER_STANDS = Wishes((
    (), ((1, 4, 0), (1, 0)), ((2, 4, 1, 0), (2, 4, 0)), ((3, 1, 0), (3, 4, 0)), ((4, 0), (4, 1, 0))))
MORE_STANDS = Wishes((
    (), ((1, 2, 0), (1, 0), (1, 3, 0)), ((2, 3, 0), (2, 1, 0), (2, 0)), ((3, 2, 0), (3, 0), (3, 1, 0))))


class ReachedTest(unittest.TestCase):
    def test_small_ones(self):
        self.assertEqual(reached(BARE), 1)
        self.assertEqual(reached(LONE), 2)
        self.assertEqual(reached(APART), 4)
        self.assertEqual(reached(PLAIN), 7)
        self.assertEqual(reached(SWAP), 19)
        for wishes in helper.tiny_wishes() + helper.some_wishes(41, 25, 3, 4, 3) + [BAD]:
            self.assertEqual(reached(wishes), len(helper.reached_from(wishes, [helper.begin_of(wishes)])))

    def test_just_so_many(self):
        self.assertEqual(len(helper.reached_from(JUST, [helper.begin_of(JUST)])), 4000)
        self.assertEqual(reached(JUST), 4000)
        self.assertIs(settles(JUST), False)

    def test_too_many(self):
        self.assertEqual(len(helper.reached_from(ONE_MORE, [helper.begin_of(ONE_MORE)])), 4001)
        for wishes in (ONE_MORE, MUCH_MORE):
            for function in (reached, settles, endless, ranks):
                with self.assertRaises(TooMany) as caught:
                    function(wishes)
                self.assertEqual(caught.exception.most, 4000)


class SettlesTest(unittest.TestCase):
    def test_known_ones(self):
        for wishes in (BARE, LONE, APART, PLAIN, LONG.struck([(7, 6, 5, 4, 3, 2, 1, 0)])):
            self.assertIs(settles(wishes), True)
        for wishes in (SWAP, BAD):
            self.assertIs(settles(wishes), False)

    def test_by_the_words_of_round_papers(self):
        for wishes in helper.tiny_wishes() + helper.some_wishes(42, 30, 3, 4, 2):
            rows = helper.reached_from(wishes, [helper.begin_of(wishes)])
            if len(rows) * 2 ** len(steps(wishes)) <= 40000:
                self.assertIs(settles(wishes), not helper.can_go_round(wishes, rows))

    def test_wishes_with_a_ladder_settle_in_one_outcome(self):
        checked = 0
        for wishes in helper.tiny_wishes() + helper.some_wishes(43, 30, 3, 5, 3):
            ways = helper.ways_of(wishes)
            if ladder(wishes) is None or len(ways) > 7:
                continue
            for many in range(len(ways) + 1):
                for gone in itertools.combinations(ways, many):
                    left = wishes.struck(gone)
                    self.assertEqual(len(outcomes(left)), 1)
                    self.assertIs(settles(left), True)
                    checked += 1
        self.assertGreater(checked, 300)

    def test_several_outcomes_do_not_settle_under_all_strikings(self):
        checked = 0
        for wishes in helper.tiny_wishes() + helper.some_wishes(44, 40, 3, 4, 3):
            ways = helper.ways_of(wishes)
            if len(outcomes(wishes)) > 1 and len(ways) <= 7:
                rows = [gone for many in range(len(ways)) for gone in itertools.combinations(ways, many)]
                self.assertFalse(all(settles(wishes.struck(gone)) for gone in rows))
                checked += 1
        self.assertGreater(checked, 1)

    def test_nothing_is_changed(self):
        look = helper.frozen(self, BAD)
        reached(BAD)
        settles(BAD)
        settles_anywhere(BAD)
        look()


class AnywhereTest(unittest.TestCase):
    def test_known_ones(self):
        for wishes in (BARE, LONE, APART, PLAIN):
            self.assertIs(settles_anywhere(wishes), True)
        for wishes in (SWAP, BAD):
            self.assertIs(settles_anywhere(wishes), False)

    def test_by_the_words_of_round_papers(self):
        for wishes in helper.tiny_wishes() + helper.some_wishes(45, 40, 3, 4, 2):
            stands = helper.stands_of(wishes)
            if len(stands) * 2 ** len(steps(wishes)) <= 4000:
                rows = helper.reached_from(wishes, stands)
                self.assertEqual(len(rows), len(stands))
                self.assertIs(settles_anywhere(wishes), not helper.can_go_round(wishes, rows))

    def test_it_settles_from_the_begin_then(self):
        for wishes in helper.some_wishes(46, 60, 3, 4, 2):
            if len(helper.stands_of(wishes)) <= 4000 and settles_anywhere(wishes):
                self.assertIs(settles(wishes), True)

    def test_stands_that_no_steps_lead_to(self):
        # Router 1 never takes its second way by itself, yet a stand may have it.
        wishes = Wishes(((), ((1, 0), (1, 2, 0)), ((2, 0),)))
        self.assertLess(reached(wishes), len(helper.stands_of(wishes)))
        self.assertIs(settles_anywhere(wishes), True)
        wishes = Wishes(((), ((1, 2, 0), (1, 0), (1, 3, 0)), ((2, 1, 0), (2, 0)), ((3, 0),)))
        self.assertLess(reached(wishes), len(helper.stands_of(wishes)))
        self.assertIs(settles_anywhere(wishes), False)

    def test_the_limit(self):
        self.assertEqual(len(helper.stands_of(FEWER_STANDS)), 3888)
        self.assertIsNotNone(ladder(FEWER_STANDS))
        self.assertIs(settles_anywhere(FEWER_STANDS), True)
        self.assertEqual(len(helper.stands_of(MORE_STANDS)), 4096)
        for wishes in (MORE_STANDS, MUCH_MORE):
            with self.assertRaises(TooMany) as caught:
                settles_anywhere(wishes)
            self.assertEqual(caught.exception.most, 4000)

    def test_the_limit_is_not_that_of_reached_stands(self):
        self.assertLess(reached(MORE_STANDS), 4000)


class ComesTest(unittest.TestCase):
    def looked_at(self, wishes, taking):
        row = comes(wishes, taking)
        self.assertIsInstance(row, tuple)
        talk = Talk(wishes)
        talk.run(row)
        self.assertEqual(talk.stand[0], taking)
        self.assertEqual(due(wishes, talk.stand), [])
        self.assertEqual(comes(wishes, taking), row)

    def test_each_outcome_is_come_to(self):
        for wishes in helper.tiny_wishes() + helper.some_wishes(47, 60, 2, 8, 3) + [SWAP, PLAIN, BARE, APART, LONG]:
            for taking in outcomes(wishes):
                self.looked_at(wishes, taking)

    def test_no_limit(self):
        wishes = MUCH_MORE
        taking = tuple([(0,)] + [(v, 0) for v in range(1, 8)])
        turned = Wishes(((),) + tuple(tuple(reversed(wishes.ways(v))) for v in range(1, 8)))
        self.looked_at(turned, taking)
        with self.assertRaises(TooMany):
            reached(turned)

    def test_what_is_no_outcome(self):
        for wishes in (SWAP, BAD, BARE):
            for thing in helper.wrong_things() + [helper.begin_of(wishes)]:
                with self.assertRaises(BadTaking):
                    comes(wishes, thing)
        for taking in helper.takings_of(SWAP):
            if taking not in outcomes(SWAP):
                with self.assertRaises(BadTaking):
                    comes(SWAP, taking)
        for thing in helper.spoiled(outcomes(SWAP)[0]):
            with self.assertRaises(BadTaking):
                comes(SWAP, thing)


if __name__ == "__main__":
    unittest.main()
