import itertools
import unittest

from tests import helper
from tests.helper import APART, BAD, BARE, LONE, LONG, PLAIN, SWAP
from wishreels.errors import TooMany
from wishreels.outcomes import is_outcome, outcomes


class OutcomesTest(unittest.TestCase):
    def test_none_one_and_several(self):
        self.assertEqual(outcomes(BAD), [])
        self.assertEqual(outcomes(PLAIN), [((0,), (1, 0), (2, 1, 0))])
        self.assertEqual(outcomes(SWAP), [((0,), (1, 0), (2, 1, 0)), ((0,), (1, 2, 0), (2, 0))])

    def test_without_ways_and_without_lines(self):
        self.assertEqual(outcomes(BARE), [((0,), ())])
        self.assertEqual(outcomes(LONE), [((0,), (1, 0))])
        self.assertEqual(outcomes(APART), [((0,), (1, 0), (2, 0), ())])
        self.assertEqual(outcomes(LONG), [tuple(tuple(range(v, -1, -1)) for v in range(8))])

    def test_each_taking_judged(self):
        for wishes in helper.tiny_wishes() + helper.some_wishes(11, 60, 2, 5, 4):
            told = outcomes(wishes)
            self.assertEqual(told, helper.outcomes_of(wishes))
            for taking in helper.takings_of(wishes)[:400]:
                self.assertIs(is_outcome(wishes, taking), taking in told)

    def test_wishes_of_eight_routers(self):
        for wishes in helper.some_wishes(12, 12, 8, 8, 3):
            self.assertEqual(outcomes(wishes), helper.outcomes_of(wishes))

    def test_just_so_many_takings(self):
        wishes = helper.wishes_with(4, 4, 4, 4, 3, 3, 1)
        self.assertEqual(len(helper.takings_of(wishes)), 20000)
        self.assertEqual(outcomes(wishes), helper.outcomes_of(wishes))

    def test_too_many_takings(self):
        for numbers in [(6, 5, 5, 4, 3, 3, 0), (6,) * 7, (6, 6, 6, 6, 5, 1, 0)]:
            with self.assertRaises(TooMany) as caught:
                outcomes(helper.wishes_with(*numbers))
            self.assertEqual(caught.exception.most, 20000)

    def test_judging_has_no_limit(self):
        wishes = helper.wishes_with(*(6,) * 7)
        best = tuple(wishes.ways(router)[-1] for router in range(1, 8))
        self.assertIs(is_outcome(wishes, ((0,),) + best), False)

    def test_each_list_is_new_and_nothing_is_changed(self):
        look = helper.frozen(self, SWAP)
        first = outcomes(SWAP)
        first.append(None)
        self.assertEqual(outcomes(SWAP), first[:-1])
        look()

    def test_wrong_things(self):
        for wishes in (SWAP, PLAIN, BARE):
            for thing in helper.wrong_things():
                self.assertIs(is_outcome(wishes, thing), False)

    def test_spoiled_outcomes(self):
        for wishes in (SWAP, PLAIN, LONE, LONG):
            for taking in outcomes(wishes):
                self.assertIs(is_outcome(wishes, taking), True)
                for thing in helper.spoiled(taking):
                    self.assertIs(is_outcome(wishes, thing), False)

    def test_takings_of_other_wishes(self):
        self.assertFalse(is_outcome(PLAIN, ((0,), (1, 2, 0), (2, 0))))
        self.assertFalse(is_outcome(SWAP, ((0,), (1, 0), (2, 1, 0), ())))
        self.assertFalse(is_outcome(SWAP, ((), (1, 0), (2, 1, 0))))
        for one, other in itertools.permutations(helper.tiny_wishes(), 2):
            for taking in outcomes(one):
                self.assertIs(is_outcome(other, taking), taking in helper.outcomes_of(other))


if __name__ == "__main__":
    unittest.main()
