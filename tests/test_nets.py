import itertools
import random
import unittest

from tests import helper
from tests.test_policies import some_policies
from wishreels.errors import BadNet, BadWay, NoRouter, TooMany
from wishreels.nets import Net, wishes_of
from wishreels.parting import parting
from wishreels.policies import Policy, Rule
from wishreels.wishes import Wishes

ALL = Policy((Rule(("any",), None, (1, (), ())),))
FIRST = Policy((Rule(("any",), None, (0, (), ())),))
NONE = Policy((Rule(("any",), None, None),))
PAIRS = [(w, v) for v in range(1, 3) for w in range(3) if w != v]
# Router 1 marks the ways that it hears from 0; router 2 refuses what is marked "far", and
# gives the others the number 4.
MARK = Policy((Rule((0,), None, (2, ("near",), ())), Rule(("any",), None, (5, ("far",), ("near",)))))
SIFT = Policy((Rule(("any",), "far", None), Rule((1, "any"), "near", (4, ("b",), ())), Rule((0,), None, (7, (), ()))))
MARKED = Net(4, {(0, 1): MARK, (1, 2): SIFT, (0, 2): SIFT, (2, 1): MARK, (1, 3): MARK, (3, 2): SIFT, (2, 3): ALL})


def full(size, policy):
    """A net in which all pairs have the same policy."""
    return Net(size, {(w, v): policy for v in range(1, size) for w in range(size) if w != v})


def some_nets(seed, many, least, most):
    """Nets of any kind, the same ones in each run."""
    chance = random.Random(seed)
    policies = some_policies(seed, 10, 3, 3) + [ALL, FIRST, MARK] * 10 + [SIFT, NONE]
    found = []
    for _ in range(many):
        size = chance.randint(least, most)
        pairs = [(w, v) for v in range(1, size) for w in range(size) if w != v and chance.random() < 0.8]
        found.append(Net(size, {pair: chance.choice(policies) for pair in pairs}))
    return found


def told_by_words(net, way):
    if way == (0,):
        return (0, ())
    there = net.policy(way[1], way[0])
    rest = told_by_words(net, way[1:])
    if there is None or rest is None:
        return None
    return there.answer(way[1:], rest[1])


class MakingTest(unittest.TestCase):
    def test_nets(self):
        net = Net(3, {(0, 1): ALL, (1, 2): NONE})
        self.assertEqual(net.size, 3)
        self.assertEqual(net.policy(0, 1), ALL)
        self.assertEqual(net.policy(1, 2), NONE)
        for w, v in itertools.product(range(3), repeat=2):
            if (w, v) not in ((0, 1), (1, 2)):
                self.assertIsNone(net.policy(w, v))

    def test_sizes(self):
        for size in range(2, 9):
            self.assertEqual(Net(size, {}).size, size)
        for thing in helper.wrong_things() + [0, 1, 9, "2", 2.0]:
            with self.assertRaises(BadNet) as caught:
                Net(thing, None)
            self.assertEqual(caught.exception.part, "size")

    def test_wrong_policies(self):
        keys = [
            (1, 1), (1, 0), (0, 0), (0, 3), (3, 1), (-1, 1), (True, 2), (0, True), (1, 2, 0), (1,), (), "ab", 1, None,
            ("0", "1"), frozenset((0, 1)), ((0, 1),), (0, None), ((0,), 1), b"\x00\x01", (0, 10 ** 29)]
        wrong = [None, [], (), [((0, 1), ALL)], {(0, 1)}, "policies", ALL, 0, {(0, 1): None}, {(0, 1): ALL.rules},
                 {(0, 1): ALL.rules[0]}, {(0, 1): Policy}, {(0, 1): ALL, (0, 2): ()}, {(0, 1): {}}]
        wrong += [{key: ALL} for key in keys] + [{(0, 1): ALL, key: ALL} for key in keys if key != (0, True)]
        wrong += [{(0, 1): thing} for thing in helper.wrong_things() if not isinstance(thing, Policy)]
        for thing in wrong + helper.wrong_things():
            with self.assertRaises(BadNet) as caught:
                Net(3, thing)
            self.assertEqual(caught.exception.part, "policies")

    def test_no_router(self):
        net = full(3, ALL)
        for thing in helper.wrong_things() + [3]:
            for w, v in [(thing, 1), (0, thing), (thing, None)]:
                with self.assertRaises(NoRouter) as caught:
                    net.policy(w, v)
                self.assertIs(caught.exception.router, thing)
                with self.assertRaises(NoRouter) as caught:
                    net.with_policy(w, v, 5)
                self.assertIs(caught.exception.router, thing)

    def test_equal_just_if_size_and_policies_are(self):
        self.assertTrue(Net(3, {(0, 1): ALL, (0, 2): NONE}) == Net(3, {(0, 2): Policy(NONE.rules), (0, 1): ALL}))
        self.assertFalse(Net(3, {(0, 1): ALL}) != Net(3, {(0, 1): ALL}))
        self.assertFalse(Net(3, {(0, 1): ALL}) == Net(4, {(0, 1): ALL}))
        for other in [{}, {(0, 1): NONE}, {(0, 2): ALL}, {(0, 1): ALL, (0, 2): ALL}]:
            self.assertFalse(Net(3, {(0, 1): ALL}) == Net(3, other))
        self.assertFalse(Net(3, {(0, 1): Policy(())}) == Net(3, {}))
        for thing in helper.wrong_things():
            self.assertFalse(Net(3, {}) == thing)

    def test_they_keep_copies(self):
        policies = {(0, 1): ALL}
        net = Net(3, policies)
        policies[(0, 1)] = NONE
        policies[(0, 2)] = ALL
        self.assertEqual(net, Net(3, {(0, 1): ALL}))


class WithPolicyTest(unittest.TestCase):
    def test_put_in_put_on_and_taken_out(self):
        net = Net(3, {(0, 1): ALL, (0, 2): NONE})
        self.assertEqual(net.with_policy(1, 2, FIRST), Net(3, {(0, 1): ALL, (0, 2): NONE, (1, 2): FIRST}))
        self.assertEqual(net.with_policy(0, 1, FIRST), Net(3, {(0, 1): FIRST, (0, 2): NONE}))
        self.assertEqual(net.with_policy(0, 1, None), Net(3, {(0, 2): NONE}))
        self.assertEqual(net.with_policy(2, 1, None), net)
        self.assertEqual(net.with_policy(0, 1, ALL), net)
        self.assertEqual(net, Net(3, {(0, 1): ALL, (0, 2): NONE}))

    def test_wrong_pairs_and_policies(self):
        net = full(3, ALL)
        for w, v in [(1, 1), (0, 0), (2, 2), (1, 0), (2, 0)]:
            for policy in (ALL, None, 5):
                with self.assertRaises(BadNet) as caught:
                    net.with_policy(w, v, policy)
                self.assertEqual(caught.exception.part, "policies")
        for thing in helper.wrong_things() + [ALL.rules, ALL.rules[0], Policy, ()]:
            if thing is not None and not isinstance(thing, Policy):
                with self.assertRaises(BadNet) as caught:
                    net.with_policy(0, 1, thing)
                self.assertEqual(caught.exception.part, "policies")
        self.assertEqual(net, full(3, ALL))


class ToldTest(unittest.TestCase):
    def test_the_way_of_the_goal(self):
        for net in (Net(2, {}), MARKED, full(8, NONE)):
            self.assertEqual(net.told((0,)), (0, ()))

    def test_numbers_and_tags(self):
        self.assertEqual(MARKED.told((1, 0)), (2, ("near",)))
        self.assertEqual(MARKED.told((2, 1, 0)), (4, ("b", "near")))
        self.assertEqual(MARKED.told((2, 0)), (7, ()))
        self.assertEqual(MARKED.told((1, 2, 0)), (5, ("far",)))
        self.assertEqual(MARKED.told((3, 1, 0)), (5, ("far",)))
        self.assertEqual(MARKED.told((3, 2, 1, 0)), (1, ("b", "near")))

    def test_ways_that_are_not_let(self):
        for way in [(3, 0), (2, 3, 0), (2, 3, 1, 0), (1, 3, 0)]:
            self.assertIsNone(MARKED.told(way))
        self.assertIsNone(full(3, NONE).told((1, 0)))
        self.assertIsNone(full(3, Policy(())).told((2, 1, 0)))

    def test_by_the_words(self):
        seen = {True: 0, False: 0}
        for net in some_nets(131, 60, 2, 5):
            for router in range(1, net.size):
                for way in helper.all_ways(net.size, router):
                    told = net.told(way)
                    self.assertEqual(told, told_by_words(net, way))
                    seen[told is None] += 1
        self.assertGreater(min(seen.values()), 100)

    def test_a_long_way(self):
        self.assertEqual(full(8, MARK).told(tuple(range(7, -1, -1))), (5, ("far",)))

    def test_no_way(self):
        wrong = [(), (1,), (1, 1, 0), (0, 1), (1, 2), (0, 0), (1, 4, 0), (4, 0), [1, 0], (True, 0), (1, False), (False,),
                 ("1", "0"), (1, None, 0), (1, (2,), 0), (2, 1, 2, 0), (1, 0, 0), (1, 0, 2, 0), "10", b"\x01\x00", 0, None]
        for thing in wrong + helper.wrong_things():
            for net in (MARKED, Net(4, {})):
                with self.assertRaises(BadWay):
                    net.told(thing)
        for thing in helper.spoiled((2, 1, 0)):
            with self.assertRaises(BadWay):
                MARKED.told(thing)


class WishesOfTest(unittest.TestCase):
    def test_known_ones(self):
        self.assertEqual(wishes_of(Net(3, {})), Wishes(((), (), ())))
        self.assertEqual(wishes_of(full(3, ALL)), Wishes(((), ((1, 0), (1, 2, 0)), ((2, 0), (2, 1, 0)))))
        self.assertEqual(wishes_of(MARKED), Wishes((
            (), ((1, 0), (1, 2, 0)), ((2, 1, 0), (2, 0)), ((3, 2, 0), (3, 2, 1, 0), (3, 1, 0), (3, 1, 2, 0)))))

    def test_numbers_then_lengths_then_order(self):
        longer = Policy((Rule(("one", "any", 0), None, (0, (), ())), Rule(("any",), None, (1, (), ()))))
        self.assertEqual(wishes_of(full(3, longer)), Wishes(((), ((1, 2, 0), (1, 0)), ((2, 1, 0), (2, 0)))))
        self.assertEqual(wishes_of(full(4, ALL)).ways(1), ((1, 0), (1, 2, 0), (1, 3, 0), (1, 2, 3, 0), (1, 3, 2, 0)))
        net = full(4, ALL).with_policy(3, 1, FIRST)
        self.assertEqual(wishes_of(net).ways(1), ((1, 3, 0), (1, 3, 2, 0), (1, 0), (1, 2, 0), (1, 2, 3, 0)))

    def test_by_the_words(self):
        ways_seen = many_seen = 0
        for net in some_nets(132, 240, 2, 5):
            lists = [()]
            for router in range(1, net.size):
                ways = [way for way in helper.all_ways(net.size, router) if net.told(way) is not None]
                lists.append(tuple(sorted(ways, key=lambda way: (net.told(way)[0], len(way), way))))
            if max(map(len, lists)) > 6:
                many_seen += 1
                with self.assertRaises(TooMany) as caught:
                    wishes_of(net)
                self.assertEqual(caught.exception.most, 6)
            else:
                ways_seen += sum(map(len, lists))
                self.assertEqual(helper.lists_of(wishes_of(net)), tuple(lists))
        self.assertGreater(ways_seen, 100)
        self.assertGreater(many_seen, 10)

    def test_just_six_and_seven(self):
        one = Net(8, {(w, v): ALL for w, v in [(0, v) for v in range(1, 7)] + [(w, 7) for w in range(1, 7)]})
        self.assertEqual(wishes_of(one).ways(7), tuple((7, w, 0) for w in range(1, 7)))
        with self.assertRaises(TooMany) as caught:
            wishes_of(one.with_policy(0, 7, ALL))
        self.assertEqual(caught.exception.most, 6)

    def test_very_many_ways(self):
        for size in (5, 8):
            with self.assertRaises(TooMany) as caught:
                wishes_of(full(size, ALL))
            self.assertEqual(caught.exception.most, 6)

    def test_alike_policies_make_the_same_wishes(self):
        chance = random.Random(133)
        alike = 0
        for net in some_nets(134, 60, 2, 4):
            other = net
            for w, v in [(w, v) for v in range(1, net.size) for w in range(net.size) if net.policy(w, v) is not None]:
                rules = net.policy(w, v).rules
                shuffled = Policy(tuple(chance.sample(rules, len(rules))) + NONE.rules)
                if parting(net.policy(w, v), shuffled) is None:
                    other = other.with_policy(w, v, shuffled)
            if other != net:
                try:
                    self.assertEqual(wishes_of(net), wishes_of(other))
                    alike += 1
                except TooMany:
                    self.assertRaises(TooMany, wishes_of, other)
        self.assertGreater(alike, 10)


if __name__ == "__main__":
    unittest.main()
