import itertools
import random
import unittest

from tests import helper
from tests.test_patterns import fits_by_words, plain, some_patterns
from wishreels.errors import BadPolicy, BadRow, BadRule, BadTags
from wishreels.policies import Policy, Rule

DEED = (3, ("a",), ("b", "c"))
NAMES = ["a", "b", "c", "d"]
TAGS = [tags for many in range(5) for tags in itertools.combinations(NAMES, many)]


def some_rule(chance, longest):
    """A rule of any kind over few names."""
    items = [0, 1, 2, "one", "any", "any"]
    pattern = tuple(chance.choice(items) for _ in range(chance.randint(0, longest)))
    tag = chance.choice([None, None] + NAMES)
    if chance.random() < 0.25:
        return Rule(pattern, tag, None)
    names = chance.sample(NAMES, chance.randint(0, 3))
    cut = chance.randint(0, len(names))
    return Rule(pattern, tag, (chance.randint(0, 1), tuple(sorted(names[:cut])), tuple(sorted(names[cut:]))))


def some_policies(seed, many, most, longest):
    """Policies of any kind, the same ones in each run."""
    chance = random.Random(seed)
    return [Policy(tuple(some_rule(chance, longest) for _ in range(chance.randint(0, most)))) for _ in range(many)]


def answer_by_words(rules, routers, tags):
    """The answer and the index of the rule that decides."""
    for index, rule in enumerate(rules):
        if fits_by_words(rule.pattern, routers) and (rule.tag is None or rule.tag in tags):
            if rule.deed is None:
                return None, index
            number, on, off = rule.deed
            return (number, tuple(sorted((set(tags) - set(off)) | set(on)))), index
    return None, None


class RulesTest(unittest.TestCase):
    def test_they_keep_what_they_are_made_of(self):
        rule = Rule((1, "one", "any"), "abc", DEED)
        self.assertEqual((rule.pattern, rule.tag, rule.deed), ((1, "one", "any"), "abc", DEED))
        rule = Rule((), None, None)
        self.assertEqual((rule.pattern, rule.tag, rule.deed), ((), None, None))

    def test_right_ones(self):
        for pattern in some_patterns(111, 20, 8) + [(0,) * 8, ("any",) * 8]:
            self.assertEqual(Rule(pattern, None, None).pattern, pattern)
        for tag in [None, "a", "z", "abcdefgh", "one", "any"]:
            self.assertEqual(Rule((), tag, None).tag, tag)
        for deed in [None, (0, (), ()), (9, (), ()), (1, ("a", "b", "c"), ("d", "e", "f")), (1, (), ("abcdefgh",))]:
            self.assertEqual(Rule((), None, deed).deed, deed)

    def test_wrong_patterns(self):
        wrong = [None, [], "any", ("two",), (8,), (True,), (1,) * 9, (-1,), (None,), ("any", "")]
        for thing in wrong + [thing for thing in helper.wrong_things() if not plain(thing)]:
            with self.assertRaises(BadRule) as caught:
                Rule(thing, 1, 1)
            self.assertEqual(caught.exception.part, "pattern")

    def test_wrong_tags(self):
        wrong = ["", "abcdefghi", "A", "aB", "a1", "a ", " a", "a\n", "a-b", "\u00e9", "\u00aa", b"a", ("a",), ["a"], 0, "one "]
        things = [thing for thing in helper.wrong_things() if thing not in (None, "tell", "choose")]
        for thing in wrong + things:
            with self.assertRaises(BadRule) as caught:
                Rule((1,), thing, 1)
            self.assertEqual(caught.exception.part, "tag")

    def test_wrong_deeds(self):
        wrong = [
            (), (1,), (1, ()), (1, (), (), ()), [1, (), ()], (10, (), ()), (-1, (), ()), (True, (), ()), ("1", (), ()),
            (None, (), ()), (1, [], ()), (1, (), []), (1, None, ()), (1, (), None), (1, ("a", "b", "c", "d"), ()),
            (1, (), ("a", "b", "c", "d")), (1, ("b", "a"), ()), (1, (), ("b", "a")), (1, ("a", "a"), ()), (1, (), ("a", "a")),
            (1, ("a",), ("a",)), (1, ("a", "b"), ("b", "c")), (1, ("A",), ()), (1, (), ("",)), (1, (1,), ()), (1, (None,), ()),
            (1, "ab", ()), (1, (), "ab"), (1, ("abcdefghi",), ()), (1, (("a",),), ()), (1, ([],), ()), ((), (), ()),
            (1, {"a": 1}, ()), (10 ** 29, (), ())]
        for thing in wrong + [thing for thing in helper.wrong_things() if thing is not None]:
            with self.assertRaises(BadRule) as caught:
                Rule((1,), "a", thing)
            self.assertEqual(caught.exception.part, "deed")
        for thing in helper.spoiled((5, ("a",), ("b",))):
            if thing not in (None, (5, ("x",), ("b",)), (5, ("a",), ("x",))):
                with self.assertRaises(BadRule):
                    Rule((), None, thing)

    def test_equal_just_if_all_three_are(self):
        rule = Rule((1,), "a", DEED)
        self.assertTrue(rule == Rule((1,), "a", (3, ("a",), ("b", "c"))))
        self.assertFalse(rule != Rule((1,), "a", DEED))
        for other in [Rule((2,), "a", DEED), Rule((1,), "b", DEED), Rule((1,), None, DEED), Rule((1,), "a", None)]:
            self.assertFalse(rule == other)
        for thing in helper.wrong_things() + [((1,), "a", DEED)]:
            self.assertFalse(rule == thing)


class PoliciesTest(unittest.TestCase):
    def test_they_keep_their_rules(self):
        rules = (Rule((1,), "a", DEED), Rule(("any",), None, None))
        self.assertEqual(Policy(rules).rules, rules)
        self.assertIsInstance(Policy(rules).rules, tuple)
        self.assertEqual(Policy(()).rules, ())
        self.assertEqual(len(Policy(rules * 4).rules), 8)

    def test_no_rules(self):
        rule = Rule((), None, None)
        for thing in [None, [], [rule], rule, (rule,) * 9, (None,) * 9, "rules", {}, {rule.tag: rule}, Policy(())]:
            with self.assertRaises(BadPolicy) as caught:
                Policy(thing)
            self.assertEqual(caught.exception.index, -1)
        for thing in helper.wrong_things():
            if not isinstance(thing, tuple):
                with self.assertRaises(BadPolicy) as caught:
                    Policy(thing)
                self.assertEqual(caught.exception.index, -1)
            for many in range(4):
                with self.assertRaises(BadPolicy) as caught:
                    Policy((rule,) * many + (thing, None))
                self.assertEqual(caught.exception.index, many if not isinstance(thing, Rule) else many + 1)

    def test_equal_just_if_their_rules_are(self):
        one, other = Rule((1,), "a", DEED), Rule(("any",), None, None)
        self.assertTrue(Policy((one, other)) == Policy((Rule((1,), "a", DEED), other)))
        self.assertFalse(Policy((one, other)) != Policy((one, other)))
        for rules in [(other, one), (one,), (), (one, other, other)]:
            self.assertFalse(Policy((one, other)) == Policy(rules))
        for thing in helper.wrong_things() + [(one, other), (one,)]:
            self.assertFalse(Policy((one, other)) == thing)


class AnswersTest(unittest.TestCase):
    def test_the_first_rule_that_fits_decides(self):
        policy = Policy((
            Rule((1, "any"), "a", (1, ("c",), ("a",))), Rule((1, "any"), None, (2, (), ("b",))),
            Rule(("any", 2), "b", None), Rule(("one",), None, (0, ("b",), ()))))
        self.assertEqual(policy.answer((1, 0), ("a", "b")), (1, ("b", "c")))
        self.assertEqual(policy.rule((1, 0), ("a", "b")), 0)
        self.assertEqual(policy.answer((1, 0), ("b",)), (2, ()))
        self.assertEqual(policy.rule((1, 0), ("b",)), 1)
        self.assertIsNone(policy.answer((2,), ("b",)))
        self.assertEqual(policy.rule((2,), ("b",)), 2)
        self.assertEqual(policy.answer((2,), ("c",)), (0, ("b", "c")))
        self.assertIsNone(policy.answer((3, 3), ()))
        self.assertIsNone(policy.rule((3, 3), ()))

    def test_numbers_and_tags(self):
        policy = Policy((Rule(("any",), None, (0, ("m", "z"), ("a", "q"))),))
        self.assertEqual(policy.answer((7,), ()), (0, ("m", "z")))
        self.assertEqual(policy.answer((7,), ("a", "m", "p", "zz")), (0, ("m", "p", "z", "zz")))
        self.assertEqual(policy.rule((7,), ()), 0)
        many = tuple("tag" + sign for sign in "abcdefghijklmnopqrst")
        self.assertEqual(policy.answer((7,), many), (0, ("m",) + many + ("z",)))

    def test_patterns_of_eight_items_beside_others(self):
        policy = Policy((Rule(("one",) * 8, "a", None), Rule((1,), None, (1, (), ())), Rule(("any",) * 8, "b", None)))
        self.assertIsNone(policy.rule((0,) * 8 + (1,), ()))
        self.assertIsNone(policy.rule((0,) * 8, ()))
        self.assertEqual(policy.rule((0,) * 8, ("a",)), 0)
        self.assertEqual(policy.rule((1,), ("a", "b")), 1)
        self.assertEqual(policy.rule((0,) * 8 + (1,), ("a", "b")), 2)

    def test_without_rules(self):
        self.assertIsNone(Policy(()).answer((1, 0), ("a",)))
        self.assertIsNone(Policy(()).rule((1, 0), ("a",)))

    def test_by_the_words(self):
        chance = random.Random(112)
        seen = {}
        for policy in some_policies(113, 150, 8, 4):
            for _ in range(40):
                routers = tuple(chance.randint(0, 3) for _ in range(chance.randint(1, 5)))
                tags = chance.choice(TAGS)
                answer, index = answer_by_words(policy.rules, routers, tags)
                self.assertEqual(policy.answer(routers, tags), answer)
                self.assertEqual(policy.rule(routers, tags), index)
                seen[index] = seen.get(index, 0) + 1
        self.assertGreater(len(seen), 6)

    def test_wrong_rows(self):
        policy = Policy((Rule(("any",), None, DEED),))
        wrong = [(), [], [1], None, "1", (8,), (-1,), (True,), ("1",), (1, None), ((1,),), ("any",), 1]
        for thing in wrong + [thing for thing in helper.wrong_things() if not plain(thing)]:
            for there in (policy, Policy(())):
                for tags in ((), None):
                    with self.assertRaises(BadRow):
                        there.answer(thing, tags)
                    with self.assertRaises(BadRow):
                        there.rule(thing, tags)

    def test_wrong_tags(self):
        policy = Policy((Rule((1,), None, DEED),))
        wrong = [None, [], ["a"], "a", ("b", "a"), ("a", "a"), ("A",), ("",), ("abcdefghi",), (1,), (None,), (b"a",),
                 ("a", None), (("a",),), {"a": 1}, {"a"}, 1, ("a ",), ("a", "c", "b")]
        for thing in wrong + helper.wrong_things():
            for routers in ((1,), (2,)):
                with self.assertRaises(BadTags):
                    policy.answer(routers, thing)
                with self.assertRaises(BadTags):
                    policy.rule(routers, thing)


if __name__ == "__main__":
    unittest.main()
