import itertools
import random
import unittest

from tests import helper
from tests.test_patterns import fits_by_words
from tests.test_policies import NAMES, TAGS, answer_by_words, some_policies, some_rule
from wishreels.errors import BadNumber, TooMany
from wishreels.parting import needless, parting, used, ways_to_stand
from wishreels.policies import Policy, Rule

ALL = Rule(("any",), None, (1, (), ()))
NONE = Rule(("any",), None, None)
ROWS = [row for many in range(1, 5) for row in itertools.product(range(4), repeat=many)]


def policy_of(*patterns):
    return Policy(tuple(Rule(pattern, None, (1, (), ())) for pattern in patterns))


def tagging(tag, number, on=(), off=()):
    """A rule for all routers."""
    return Rule(("any",), tag, (number, on, off))


JUST = policy_of(
    ("any", 0), ("any", 1, "any"), ("any", 2, "any", 2, "any"), ("any", 3, "any", 3, "any"), ("any", 4, "any", 4, "any"),
    ("any", 5, "any", 5, "any", 5), ("any", 6, "any", 6, "any"), (7, 1))
ONE_MORE = policy_of(
    ("any", 0, "any", 0, "any"), ("any", 1, "any", 1, "any", 1), ("any", 2), ("any", 3, "any", 3, "any"),
    ("any", 4, "any", 4, "any"), ("any", 5, "any", 5, "any"), ("any", 6, "any"), (1, 2, 1))
MUCH_MORE = policy_of(*[("any", router) * 4 for router in range(8)])


def stand_by_words(patterns, routers):
    return tuple(tuple(many for many in range(len(pattern) + 1) if fits_by_words(pattern[:many], routers))
                 for pattern in patterns)


def count_by_words(one, other):
    """The number of the ways to stand, by growing tuples as long as new ways are found."""
    patterns = [rule.pattern for rule in one.rules + other.rules]
    found = {stand_by_words(patterns, ()): ()}
    last = [()]
    while last:
        grown = []
        for routers in last:
            for router in range(8):
                stand = stand_by_words(patterns, routers + (router,))
                if stand not in found:
                    found[stand] = routers + (router,)
                    grown.append(routers + (router,))
        last = grown
    return len(found)


def related(chance, policy, longest):
    """A policy that is often alike, or nearly so."""
    rules = list(policy.rules)
    kind = chance.random()
    if kind < 0.3:
        chance.shuffle(rules)
    elif kind < 0.6 and rules:
        rules[chance.randrange(len(rules))] = some_rule(chance, longest)
    elif kind < 0.8:
        rules = [some_rule(chance, longest) for _ in range(chance.randint(0, 3))]
    else:
        rules.append(some_rule(chance, longest))
    return Policy(tuple(rules))


def first_unlike(one, other):
    """The first of the shorter tuples of routers and tags with unlike answers."""
    for routers in ROWS:
        for tags in TAGS:
            if answer_by_words(one.rules, routers, tags)[0] != answer_by_words(other.rules, routers, tags)[0]:
                return (routers, tags)
    return None


class WaysToStandTest(unittest.TestCase):
    def test_small_ones(self):
        empty = Policy(())
        self.assertEqual(ways_to_stand(empty, empty), 1)
        self.assertEqual(ways_to_stand(policy_of(()), empty), 2)
        self.assertEqual(ways_to_stand(empty, policy_of(())), 2)
        self.assertEqual(ways_to_stand(policy_of(("any",)), empty), 2)
        self.assertEqual(ways_to_stand(policy_of(("one",)), empty), 3)
        self.assertEqual(ways_to_stand(policy_of((3,)), empty), 3)
        self.assertEqual(ways_to_stand(policy_of((3,)), policy_of((3,), (3,))), 3)
        self.assertEqual(ways_to_stand(policy_of((3,)), policy_of((4,))), 4)
        self.assertEqual(ways_to_stand(policy_of((3,)), policy_of(("one",))), 4)
        self.assertEqual(ways_to_stand(policy_of(("any", 3)), empty), 3)
        self.assertEqual(ways_to_stand(policy_of(tuple(range(8))), empty), 10)

    def test_by_the_words(self):
        counts = set()
        for one, other in itertools.pairwise(some_policies(121, 60, 2, 4)):
            told = ways_to_stand(one, other)
            self.assertEqual(told, count_by_words(one, other))
            self.assertEqual(ways_to_stand(other, one), told)
            counts.add(told)
        self.assertGreater(len(counts), 10)

    def test_patterns_of_eight_items_beside_others(self):
        for one, other in [
                (policy_of(("one",) * 8, (1,)), policy_of((0,) * 8, ("any", 2))), (policy_of((0,) * 8), policy_of((0, 0))),
                (policy_of(("any", 1) * 4), policy_of(("any",) * 8, (1, "any")))]:
            self.assertEqual(ways_to_stand(one, other), count_by_words(one, other))

    def test_tags_and_deeds_do_not_matter(self):
        for one in some_policies(122, 20, 3, 4):
            bare = policy_of(*[rule.pattern for rule in one.rules])
            self.assertEqual(ways_to_stand(one, one), ways_to_stand(bare, Policy(())))

    def test_just_so_many(self):
        self.assertEqual(ways_to_stand(JUST, JUST), 3000)
        self.assertEqual(ways_to_stand(Policy(JUST.rules[:3]), Policy(JUST.rules[3:])), 3000)

    def test_too_many(self):
        for one, other in [(ONE_MORE, ONE_MORE), (ONE_MORE, Policy(())), (Policy(()), MUCH_MORE), (JUST, ONE_MORE)]:
            with self.assertRaises(TooMany) as caught:
                ways_to_stand(one, other)
            self.assertEqual(caught.exception.most, 3000)


class PartingTest(unittest.TestCase):
    def test_alike(self):
        for one, other in [
                (Policy(()), Policy(())), (Policy(()), Policy((NONE,))), (Policy((NONE, ALL)), Policy(())),
                (Policy((ALL,)), Policy((ALL, NONE))), (Policy((ALL,)), Policy((Rule(("any", "any"), None, ALL.deed),))),
                (Policy((Rule((), None, ALL.deed),)), Policy(())), (Policy((Rule((), None, ALL.deed), NONE)), Policy(())),
                (Policy((tagging("a", 1), tagging("b", 2), ALL)), Policy((tagging("a", 1), tagging("b", 2), tagging("a", 3), ALL))),
                (Policy((tagging("a", 1, ("a",)),)), Policy((tagging("a", 1),))),
                (Policy((tagging("a", 1), tagging(None, 2, (), ("a",)))), Policy((tagging("a", 1), tagging(None, 2))))]:
            self.assertIsNone(parting(one, other))
            self.assertIsNone(parting(other, one))

    def test_shortest_and_least_routers(self):
        for pattern, routers in [
                (("any",), (0,)), (("one",), (0,)), ((7,), (7,)), ((2, "any", 0), (2, 0)), (("any", 5), (5,)),
                (("one", "one", 3), (0, 0, 3)), (("one",) * 8, (0,) * 8), ((7, "any", 1, "any", 7), (7, 1, 7))]:
            self.assertEqual(parting(policy_of(pattern), Policy(())), (routers, ()))
            self.assertEqual(parting(Policy(()), policy_of(pattern)), (routers, ()))
        self.assertEqual(parting(policy_of((1, 2), (3,)), policy_of((1, 2))), ((3,), ()))
        self.assertEqual(parting(policy_of((1, 2), (0, 7)), Policy(())), ((0, 7), ()))
        self.assertEqual(parting(policy_of((1, "any")), policy_of((1,), (1, "any", 1), (1, "one"))), ((1, 0, 0), ()))

    def test_the_empty_tuple_never_parts(self):
        self.assertIsNone(parting(policy_of(()), Policy(())))
        self.assertEqual(parting(policy_of(("any",)), policy_of(())), ((0,), ()))

    def test_fewest_and_least_tags(self):
        plain = Policy((ALL,))
        self.assertEqual(parting(plain, Policy((tagging("c", 2), tagging("b", 2), ALL))), ((0,), ("b",)))
        self.assertEqual(parting(plain, Policy((tagging("b", 1), tagging("c", 2), ALL))), ((0,), ("c",)))
        self.assertEqual(parting(plain, Policy((tagging(None, 1, ("b",)),))), ((0,), ()))
        self.assertEqual(parting(plain, Policy((tagging(None, 1, (), ("d", "e")),))), ((0,), ("d",)))
        self.assertEqual(parting(plain, Policy((tagging("d", 1), tagging(None, 1, (), ("d", "e"))))), ((0,), ("e",)))
        self.assertEqual(
            parting(plain, Policy((tagging("z", 1, (), ("c",)), tagging("y", 1, (), ("d",)), ALL))), ((0,), ("c", "z")))
        one = Policy((tagging("b", 1, (), ("a", "m")), tagging("c", 1)))
        other = Policy((tagging("c", 1), tagging("b", 1)))
        self.assertEqual(parting(one, other), ((0,), ("a", "b")))
        one = Policy((tagging("b", 1, (), ("m",)), tagging("c", 2)))
        other = Policy((tagging("c", 2), tagging("b", 1)))
        self.assertEqual(parting(one, other), ((0,), ("b", "c")))
        one = Policy((tagging("b", 1, (), ("d",)), tagging("c", 1)))
        self.assertEqual(parting(one, Policy((tagging("c", 1), tagging("b", 1)))), ((0,), ("b", "d")))
        one = Policy((tagging("b", 1), tagging("c", 1, (), ("d",)), tagging("d", 1)))
        other = Policy((tagging("d", 1), tagging("c", 1), tagging("b", 1, ("c",))))
        self.assertEqual(parting(one, other), ((0,), ("b",)))

    def test_tags_that_a_rule_ahead_takes_away_from_it(self):
        one = Policy((tagging("a", 1), tagging("b", 2), tagging(None, 3, (), ("a", "c"))))
        other = Policy((tagging("a", 1), tagging("b", 2), tagging(None, 3)))
        self.assertEqual(parting(one, other), ((0,), ("c",)))
        three = Policy((tagging("a", 1), tagging("b", 2, (), ("a", "c", "d")), ALL))
        self.assertEqual(parting(three, Policy((tagging("a", 1), tagging("b", 2), ALL))), ((0,), ("b", "c")))
        names = [Policy((tagging("x", 1, (), off), tagging("y", 1))) for off in (("p",), ())]
        self.assertEqual(parting(*names), ((0,), ("p", "x")))
        two = [Policy((tagging("x", 1, (), ("p",)), tagging("y", 1))), Policy((tagging("y", 1), tagging("x", 1)))]
        self.assertEqual(parting(*two), ((0,), ("p", "x")))

    def test_tags_are_ascending_whatever_rule_wants_them(self):
        for low, high in itertools.combinations(["q", "ab", "b", "zz", "m", "c", "abc"], 2):
            one = Policy((tagging(low, 1), tagging(high, 2)))
            other = Policy((tagging(high, 2), tagging(low, 1)))
            self.assertEqual(parting(one, other), ((0,), tuple(sorted((low, high)))))

    def test_three_tags(self):
        one = Policy((Rule((1,), "k", (1, (), ("c",))), Rule((1,), "l", (1, (), ()))))
        other = Policy((Rule((1,), "l", (1, (), ())), Rule((1,), "k", (1, (), ("c",)))))
        self.assertEqual(parting(one, other), ((1,), ("c", "k", "l")))

    def test_by_the_words(self):
        chance = random.Random(123)
        seen = {True: 0, False: 0}
        for one in some_policies(124, 120, 3, 3):
            other = related(chance, one, 3)
            told = parting(one, other)
            self.assertEqual(parting(other, one), told)
            if told is None or len(told[0]) < 5:
                self.assertEqual(told, first_unlike(one, other))
            else:
                self.assertIsNone(first_unlike(one, other))
            seen[told is None] += 1
        self.assertGreater(min(seen.values()), 20)

    def test_whole_policies_of_many_names(self):
        chance = random.Random(125)
        for _ in range(40):
            rules = [tagging(tag, chance.randint(0, 1), (), tuple(sorted(chance.sample(NAMES, chance.randint(0, 2)))))
                     for tag in chance.sample(NAMES + [None, None, "a", "b"], 8)]
            one, other = Policy(tuple(rules)), Policy(tuple(chance.sample(rules, 8)))
            self.assertEqual(parting(one, other), first_unlike(one, other))

    def test_just_so_many_and_too_many(self):
        self.assertIsNone(parting(JUST, JUST))
        self.assertIsNone(parting(JUST, Policy(JUST.rules[:7])))
        self.assertEqual(parting(JUST, Policy(JUST.rules[1:])), ((0,), ()))
        self.assertEqual(parting(Policy(JUST.rules[:4] + JUST.rules[5:]), JUST), ((4, 4), ()))
        for one, other in [(ONE_MORE, ONE_MORE), (ONE_MORE, Policy(())), (Policy(()), MUCH_MORE), (JUST, ONE_MORE)]:
            with self.assertRaises(TooMany) as caught:
                parting(one, other)
            self.assertEqual(caught.exception.most, 3000)

    def test_nothing_is_changed(self):
        one, other = some_policies(126, 2, 4, 4)
        kept = (one.rules, other.rules)
        for function in (parting, ways_to_stand):
            function(one, other)
        needless(one)
        self.assertEqual((one.rules, other.rules), kept)
        self.assertEqual(one, Policy(kept[0]))


class UsedTest(unittest.TestCase):
    def test_known_ones(self):
        policy = Policy((
            Rule((3, 3), None, None), Rule(("any", 3), "b", None), Rule(("one",), None, ALL.deed), Rule((5,), None, None),
            Rule((), None, ALL.deed), Rule(("any", 3), "b", None), Rule(("any", 3), "a", None)))
        self.assertEqual(used(policy, 0), ((3, 3), ()))
        self.assertEqual(used(policy, 1), ((3,), ("b",)))
        self.assertEqual(used(policy, 2), ((0,), ()))
        self.assertIsNone(used(policy, 3))
        self.assertIsNone(used(policy, 4))
        self.assertIsNone(used(policy, 5))
        self.assertEqual(used(policy, 6), ((0, 3), ("a",)))

    def test_by_the_words(self):
        seen = {True: 0, False: 0}
        for policy in some_policies(127, 80, 6, 3):
            for index in range(len(policy.rules)):
                told = used(policy, index)
                first = None
                for routers in ROWS:
                    for tags in TAGS:
                        if first is None and answer_by_words(policy.rules, routers, tags)[1] == index:
                            first = (routers, tags)
                if told is None or len(told[0]) < 5:
                    self.assertEqual(told, first)
                else:
                    self.assertIsNone(first)
                seen[told is None] += 1
        self.assertGreater(min(seen.values()), 40)

    def test_no_number(self):
        policy = Policy((ALL, NONE))
        for there, wrong in [(policy, [2, -2, -1]), (ONE_MORE, [8, -8]), (Policy(()), [0, 1])]:
            for thing in helper.wrong_things() + wrong:
                with self.assertRaises(BadNumber):
                    used(there, thing)

    def test_just_so_many_and_too_many(self):
        self.assertEqual(used(JUST, 0), ((0,), ()))
        self.assertEqual(used(JUST, 6), ((6, 6), ()))
        self.assertIsNone(used(JUST, 7))
        for index in (0, 7):
            with self.assertRaises(TooMany) as caught:
                used(ONE_MORE, index)
            self.assertEqual(caught.exception.most, 3000)


class NeedlessTest(unittest.TestCase):
    def test_known_ones(self):
        self.assertEqual(needless(Policy(())), [])
        self.assertEqual(needless(Policy((ALL,))), [])
        self.assertEqual(needless(Policy((NONE,))), [0])
        self.assertEqual(needless(Policy((ALL, ALL))), [0, 1])
        self.assertEqual(needless(Policy((ALL, NONE))), [1])
        self.assertEqual(needless(Policy((Rule((1,), None, None), ALL, Rule((), None, None)))), [2])
        self.assertEqual(needless(Policy((tagging("a", 1, ("a",)), tagging("b", 1), ALL))), [0, 1])

    def test_by_the_words(self):
        seen = 0
        for policy in some_policies(128, 60, 5, 3):
            alike = []
            for index in range(len(policy.rules)):
                less = Policy(policy.rules[:index] + policy.rules[index + 1:])
                if parting(policy, less) is None:
                    alike.append(index)
                    self.assertIsNone(first_unlike(policy, less))
            self.assertEqual(needless(policy), alike)
            seen += len(alike)
        self.assertGreater(seen, 30)

    def test_just_so_many_and_too_many(self):
        self.assertEqual(needless(JUST), [7])
        with self.assertRaises(TooMany) as caught:
            needless(ONE_MORE)
        self.assertEqual(caught.exception.most, 3000)

    def test_each_list_is_new(self):
        policy = Policy((NONE,))
        needless(policy).append(None)
        self.assertEqual(needless(policy), [0])


if __name__ == "__main__":
    unittest.main()
