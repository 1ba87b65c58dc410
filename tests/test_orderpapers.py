import random
import unittest

from tests import helper
from tests.helper import APART, BAD, BARE, LONE, LONG, PLAIN, SWAP
from wishreels.orderpapers import endless, is_endless, is_ranks, ranks
from wishreels.settling import reached, settles
from wishreels.talks import Talk, begin, done, due, steps
from wishreels.wishes import Wishes

AHEAD = (("choose", 1), ("choose", 2))
TURN = (("tell", 1, 2), ("tell", 2, 1), ("choose", 1), ("choose", 2))
START = (((0,), (), ()), ((),))
# Wishes with a knot of several stands that each fair order leaves.
LEFT = Wishes(((), ((1, 2, 0), (1, 0)), ((2, 3, 0), (2, 1, 0), (2, 0)), ((3, 0),)))


def some():
    return helper.tiny_wishes() + helper.some_wishes(51, 40, 3, 4, 3) + [BARE, LONE, APART, PLAIN, SWAP, BAD, LEFT]


def is_paper(wishes, paper):
    """Whether a dict from the reached stands to ranks and steps is a rank paper, by the words."""
    for stand, (rank, step) in paper.items():
        behind = {one: paper[helper.behind(wishes, stand, one)] for one in due(wishes, stand)}
        if not behind and step is not None:
            return False
        if behind and (step not in behind or behind[step][0] >= rank):
            return False
        if any(later[0] > rank or later[0] == rank and later[1] != step for later in behind.values()):
            return False
    return True


class EndlessTest(unittest.TestCase):
    def test_there_is_one_just_if_it_does_not_settle(self):
        seen = {True: 0, False: 0}
        for wishes in some():
            paper = endless(wishes)
            self.assertIs(paper is None, settles(wishes))
            self.assertIs(is_endless(wishes, paper), paper is not None)
            self.assertEqual(endless(wishes), paper)
            seen[paper is None] += 1
        self.assertTrue(min(seen.values()) > 3)

    def test_papers_go_round(self):
        for wishes in some():
            paper = endless(wishes)
            if paper is not None:
                ahead, turn = paper
                self.assertIsInstance(ahead, tuple)
                self.assertIsInstance(turn, tuple)
                self.assertEqual(set(turn), set(steps(wishes)))
                talk = Talk(wishes)
                talk.run(ahead)
                there = talk.stand
                self.assertGreater(talk.run(turn), 0)
                self.assertEqual(talk.stand, there)

    def test_a_paper(self):
        self.assertIs(is_endless(SWAP, (AHEAD, TURN + TURN)), True)
        self.assertIs(is_endless(SWAP, (AHEAD + TURN, TURN + TURN)), True)
        self.assertIs(is_endless(SWAP, (AHEAD, (TURN + TURN) * 5)), True)

    def test_it_must_lead_back(self):
        self.assertIs(is_endless(SWAP, (AHEAD, TURN)), False)
        self.assertIs(is_endless(SWAP, ((), TURN + TURN)), False)
        self.assertIs(is_endless(SWAP, (AHEAD, TURN + TURN + TURN)), False)

    def test_it_must_change_the_stand(self):
        to_rest = (("choose", 1), ("tell", 1, 2), ("choose", 2), ("tell", 2, 1))
        self.assertIs(is_endless(SWAP, (to_rest, TURN)), False)
        self.assertIs(is_endless(SWAP, (to_rest, TURN + TURN)), False)
        self.assertIs(is_endless(BARE, ((), (("choose", 1),))), False)

    def test_it_must_have_all_steps(self):
        self.assertIs(is_endless(SWAP, (AHEAD, ())), False)
        for step in steps(SWAP):
            turn = tuple(one for one in TURN + TURN if one != step)
            self.assertIs(is_endless(SWAP, (AHEAD, turn)), False)
        # Router 3 alone is left out, though the others go round.
        wishes = Wishes(helper.lists_of(SWAP) + (((3, 0),),))
        self.assertIs(is_endless(wishes, (AHEAD, TURN + TURN)), False)
        self.assertIs(is_endless(wishes, (AHEAD + (("choose", 3),), TURN + TURN + (("choose", 3),))), True)
        self.assertIs(is_endless(wishes, (AHEAD, TURN + TURN + (("choose", 3),))), False)

    def test_wrong_things(self):
        for wishes in (SWAP, BARE):
            for thing in helper.wrong_things() + [(), ((), ()), (AHEAD,), (AHEAD, TURN + TURN, ()), AHEAD]:
                self.assertIs(is_endless(wishes, thing), False)

    def test_spoiled_papers(self):
        for wishes, paper in [(SWAP, (AHEAD, TURN + TURN)), (SWAP, endless(SWAP)), (BAD, endless(BAD))]:
            self.assertIs(is_endless(wishes, paper), True)
            for thing in helper.spoiled(paper):
                self.assertIs(is_endless(wishes, thing), False)
        self.assertIs(is_endless(SWAP, [AHEAD, TURN + TURN]), False)
        self.assertIs(is_endless(SWAP, (list(AHEAD), TURN + TURN)), False)

    def test_papers_of_other_wishes(self):
        self.assertIs(is_endless(BAD, endless(SWAP)), False)
        self.assertIs(is_endless(PLAIN, endless(SWAP)), False)

    def test_judging_has_no_limit(self):
        wishes = helper.wishes_with(*(6,) * 7)
        self.assertIs(is_endless(wishes, ((), tuple(steps(wishes)))), False)

    def test_nothing_is_changed(self):
        look = helper.frozen(self, SWAP)
        is_endless(SWAP, endless(SWAP))
        look()


class RanksTest(unittest.TestCase):
    def test_there_is_one_just_if_it_settles(self):
        for wishes in some():
            paper = ranks(wishes)
            self.assertIs(paper is not None, settles(wishes))
            self.assertIs(is_ranks(wishes, paper), paper is not None)
            self.assertEqual(ranks(wishes), paper)

    def test_papers_have_just_the_reached_stands(self):
        for wishes in some():
            paper = ranks(wishes)
            if paper is not None:
                self.assertEqual(len(paper), reached(wishes))
                self.assertEqual(list(paper), sorted(helper.reached_from(wishes, [begin(wishes)])))

    def test_by_the_words(self):
        for wishes in some():
            paper = ranks(wishes)
            if paper is not None:
                self.assertTrue(is_paper(wishes, paper))
                self.assertTrue(all(type(rank) is int and rank >= 0 for rank, _ in paper.values()))

    def test_a_knot_that_is_left(self):
        paper = ranks(LEFT)
        self.assertIs(is_ranks(LEFT, paper), True)
        self.assertLess(len({rank for rank, _ in paper.values()}), len(paper))

    def test_small_papers(self):
        self.assertIs(is_ranks(BARE, {begin(BARE): (0, None)}), True)
        self.assertIs(is_ranks(BARE, {begin(BARE): (7, None)}), True)
        self.assertIs(is_ranks(BARE, {begin(BARE): (0, ("choose", 1))}), False)
        self.assertIs(is_ranks(BARE, {}), False)
        first, last = begin(LONE), (((0,), (1, 0)), ())
        step = ("choose", 1)
        self.assertIs(is_ranks(LONE, {first: (1, step), last: (0, None)}), True)
        self.assertIs(is_ranks(LONE, {last: (3, None), first: (10 ** 29, step)}), True)
        self.assertIs(is_ranks(LONE, {first: (1, step)}), False)
        self.assertIs(is_ranks(LONE, {last: (0, None)}), False)
        self.assertIs(is_ranks(LONE, {first: (1, None), last: (0, None)}), False)
        self.assertIs(is_ranks(LONE, {first: (0, step), last: (0, None)}), False)
        self.assertIs(is_ranks(LONE, {first: (0, step), last: (1, None)}), False)
        self.assertIs(is_ranks(LONE, {first: (1, step), last: (0, step)}), False)
        self.assertIs(is_ranks(LONE, {first: (0, step), last: (-1, None)}), False)

    def test_stands_that_are_not_reached_may_be_there(self):
        wishes = Wishes(((), ((1, 0), (1, 2, 0)), ((2, 0),)))
        whole = {}
        for takes, told in helper.stands_of(wishes):
            if takes[2] == ():
                mark = (3, ("choose", 2))
            elif told == ((),):
                mark = (2, ("tell", 2, 1))
            else:
                mark = (0, None) if takes[1] == (1, 0) else (1, ("choose", 1))
            whole[takes, told] = mark
        self.assertLess(reached(wishes), len(whole))
        self.assertIs(is_ranks(wishes, whole), True)
        unreached = (((0,), (1, 2, 0), ()), ((),))
        self.assertNotIn(unreached, ranks(wishes))
        self.assertIs(is_ranks(wishes, {**whole, unreached: (2, ("choose", 2))}), False)
        self.assertIs(is_ranks(wishes, {**ranks(wishes), unreached: (99, ("choose", 1))}), False)
        self.assertIs(is_ranks(wishes, {**ranks(wishes), unreached: (99, None)}), False)

    def test_as_great_ranks_have_the_same_step(self):
        # Both routers by themselves: whatever comes first, the other step stays due.
        wishes = Wishes(((), ((1, 0),), ((2, 0),)))
        one, two = ("choose", 1), ("choose", 2)
        first = begin(wishes)
        left, right = done(wishes, first, one), done(wishes, first, two)
        last = done(wishes, left, two)
        self.assertTrue(is_ranks(wishes, {first: (2, one), left: (1, two), right: (2, one), last: (0, None)}))
        self.assertTrue(is_ranks(wishes, {first: (2, one), left: (1, two), right: (1, one), last: (0, None)}))
        self.assertFalse(is_ranks(wishes, {first: (2, two), left: (1, two), right: (2, one), last: (0, None)}))
        self.assertFalse(is_ranks(wishes, {first: (2, one), left: (2, two), right: (2, one), last: (0, None)}))
        self.assertFalse(is_ranks(wishes, {first: (2, one), left: (1, two), right: (3, one), last: (0, None)}))
        self.assertFalse(is_ranks(wishes, {first: (2, one), left: (1, one), right: (2, one), last: (0, None)}))
        self.assertFalse(is_ranks(wishes, {first: (2, one), left: (1, two), right: (2, one), last: (1, None)}))

    def test_as_great_ranks_with_another_step(self):
        # Three routers by themselves; the rank stays when 2 chooses, so the step must stay, too.
        wishes = Wishes(((), ((1, 0),), ((2, 0),), ((3, 0),)))
        marks = {
            (): (3, 1), (1,): (2, 2), (2,): (3, 1), (3,): (3, 1), (1, 2): (1, 3), (1, 3): (2, 2), (2, 3): (2, 1),
            (1, 2, 3): (0, None)}
        paper = {}
        for chosen, (rank, router) in marks.items():
            takes = ((0,),) + tuple((v, 0) if v in chosen else () for v in (1, 2, 3))
            paper[takes, ()] = (rank, router and ("choose", router))
        self.assertIs(is_ranks(wishes, paper), True)
        second = (((0,), (), (2, 0), ()), ())
        self.assertIs(is_ranks(wishes, {**paper, second: (3, ("choose", 3))}), False)
        self.assertIs(is_ranks(wishes, {**paper, second: (4, ("choose", 1))}), False)
        self.assertIs(is_ranks(wishes, {**paper, second: (3, ("choose", 2))}), False)

    def test_papers_with_changes_judged_by_the_words(self):
        chance = random.Random(52)
        seen = {True: 0, False: 0}
        for wishes in [PLAIN, LEFT, APART] + helper.some_wishes(53, 20, 3, 4, 2):
            paper = ranks(wishes)
            if paper is None or len(paper) > 200:
                continue
            for _ in range(60):
                other = dict(paper)
                for stand in chance.sample(list(paper), min(len(paper), chance.randint(1, 2))):
                    rank = max(0, other[stand][0] + chance.choice([-2, -1, 0, 0, 1, 2]))
                    other[stand] = (rank, chance.choice(steps(wishes) + [None, other[stand][1], other[stand][1]]))
                told = is_paper(wishes, other)
                self.assertIs(is_ranks(wishes, other), told)
                seen[told] += 1
        self.assertGreater(min(seen.values()), 30)

    def test_wrong_things(self):
        for wishes in (PLAIN, BARE):
            for thing in helper.wrong_things() + [(), {}, [], {None: None}, {begin(wishes): None}, {0: (0, None)}]:
                self.assertIs(is_ranks(wishes, thing), False)

    def test_nothing_but_stands(self):
        paper = ranks(PLAIN)
        for thing in helper.wrong_things() + [START[0], ((True,), ()), (START[0], ((0,),))]:
            try:
                whole = {**paper, thing: (0, None)}
            except TypeError:
                continue
            if len(whole) > len(paper):
                self.assertIs(is_ranks(PLAIN, whole), False)

    def test_keys_with_flags(self):
        for stand in list(ranks(LONE)):
            for thing in helper.spoiled(stand):
                paper = ranks(LONE)
                worth = paper.pop(stand)
                try:
                    paper[thing] = worth
                except TypeError:
                    continue
                self.assertIs(is_ranks(LONE, paper), False)

    def test_wrong_worths(self):
        paper = ranks(PLAIN)
        for stand in paper:
            # A greater rank may be right, and a step that is None already is not spoiled by it.
            right = [repr((99, paper[stand][1])), repr(paper[stand])]
            spoiled = [thing for thing in helper.spoiled(paper[stand]) if repr(thing) not in right]
            for thing in spoiled + helper.wrong_things():
                self.assertIs(is_ranks(PLAIN, {**paper, stand: thing}), False)
            for rank in (True, False, -1, None, "0", (0,)):
                self.assertIs(is_ranks(PLAIN, {**paper, stand: (rank, paper[stand][1])}), False)

    def test_spoiled_papers(self):
        for wishes in (PLAIN, LEFT):
            paper = ranks(wishes)
            for stand in paper:
                less = {one: paper[one] for one in paper if one != stand}
                self.assertIs(is_ranks(wishes, less), False)
                if due(wishes, stand):
                    self.assertIs(is_ranks(wishes, {**paper, stand: (paper[stand][0], None)}), False)
                    self.assertIs(is_ranks(wishes, {**paper, stand: (0, paper[stand][1])}), False)
                else:
                    self.assertIs(is_ranks(wishes, {**paper, stand: (paper[stand][0], ("choose", 1))}), False)
                    self.assertIs(is_ranks(wishes, {**paper, stand: (10 ** 6, None)}), False)

    def test_papers_of_other_wishes(self):
        self.assertIs(is_ranks(SWAP, ranks(PLAIN)), False)
        self.assertIs(is_ranks(APART, ranks(LONE)), False)

    def test_each_dict_is_new_and_nothing_is_changed(self):
        look = helper.frozen(self, PLAIN)
        paper = ranks(PLAIN)
        kept = dict(paper)
        is_ranks(PLAIN, paper)
        self.assertEqual(paper, kept)
        paper.clear()
        self.assertEqual(ranks(PLAIN), kept)
        look()

    def test_eight_routers(self):
        wishes = LONG.struck([(6, 5, 4, 3, 2, 1, 0)])
        self.assertIs(is_ranks(wishes, ranks(wishes)), True)
        self.assertIsNone(endless(wishes))


if __name__ == "__main__":
    unittest.main()
