import unittest

from tests import helper
from tests.helper import APART, BAD, BARE, LONE, LONG, PLAIN, SWAP
from wishreels.errors import TooMany
from wishreels.outcomes import outcomes
from wishreels.outcometrees import is_outcome_tree, outcome_tree


def leaves(wishes, tree, items):
    """The leaves of a tree with what the routers have there."""
    if tree[0] != "take":
        return [(tree, dict(items))]
    worths = list(wishes.ways(tree[1])) + [()]
    assert len(worths) == len(tree[2]) and tree[1] not in items
    return [leaf for worth, below in zip(worths, tree[2]) for leaf in leaves(wishes, below, {**items, tree[1]: worth})]


class OutcomeTreesTest(unittest.TestCase):
    def looked_at(self, wishes, tree):
        self.assertIs(is_outcome_tree(wishes, tree), True)
        found = []
        for leaf, items in leaves(wishes, tree, {0: (0,)}):
            whole = [taking for taking in helper.outcomes_of(wishes) if all(taking[v] == items[v] for v in items)]
            if leaf == ("all",):
                found.append(tuple(items[v] for v in range(wishes.size)))
            else:
                self.assertEqual(leaf[0], "no")
                self.assertEqual(whole, [])
        self.assertEqual(sorted(found), helper.outcomes_of(wishes))

    def test_trees_show_all_outcomes(self):
        more = helper.tiny_wishes() + helper.some_wishes(21, 40, 2, 5, 3)
        for wishes in [SWAP, PLAIN, BAD, BARE, LONE, APART, LONG] + more:
            self.looked_at(wishes, outcome_tree(wishes))
            self.assertEqual(outcome_tree(wishes), outcome_tree(wishes))

    def test_just_so_many_takings(self):
        wishes = helper.wishes_with(4, 4, 4, 5, 3)
        self.assertEqual(len(helper.takings_of(wishes)), 3000)
        self.looked_at(wishes, outcome_tree(wishes))

    def test_too_many_takings(self):
        for numbers in [(6, 5, 5, 5, 1), (6,) * 7, (4, 4, 4, 4, 3, 3, 1)]:
            with self.assertRaises(TooMany) as caught:
                outcome_tree(helper.wishes_with(*numbers))
            self.assertEqual(caught.exception.most, 3000)

    def test_trees_that_take_in_another_order(self):
        no, whole = ("no", 2), ("all",)
        tree = ("take", 2, (("take", 1, (whole, ("no", 1))), no, no))
        self.assertEqual(outcomes(PLAIN), [((0,), (1, 0), (2, 1, 0))])
        self.assertFalse(is_outcome_tree(PLAIN, tree))
        right = ("take", 2, (("take", 1, (whole, ("no", 1))), ("take", 1, (no, ("no", 1))), no))
        self.assertTrue(is_outcome_tree(PLAIN, right))

    def test_a_tree_may_take_all_and_say_no_behind(self):
        one, two = ("no", 1), ("no", 2)
        full = ("take", 1, (("take", 2, (("all",), two, two)), ("take", 2, (one, one, one))))
        self.assertTrue(is_outcome_tree(PLAIN, full))
        other = ("take", 1, (("take", 2, (("all",), two, two)), ("take", 2, (two, one, two))))
        self.assertTrue(is_outcome_tree(PLAIN, other))
        wrong = ("take", 1, (("take", 2, (("all",), two, two)), ("take", 2, (two, two, two))))
        self.assertFalse(is_outcome_tree(PLAIN, wrong))

    def test_reasons_for_no(self):
        # Router 2 has (2, 1, 0), and router 1 has an item already, another than the rest.
        self.assertTrue(is_outcome_tree(SWAP, outcome_tree(SWAP)))
        lacking = ("take", 2, (("no", 2), ("take", 1, (("all",), ("no", 1), ("no", 1))), ("no", 2)))
        self.assertFalse(is_outcome_tree(SWAP, lacking))
        told = ("take", 1, (("all",), ("no", 1), ("no", 1)))
        taken = ("take", 1, (("no", 2), ("all",), ("no", 1)))
        self.assertTrue(is_outcome_tree(SWAP, ("take", 2, (taken, told, ("no", 2)))))

    def test_all_is_no_tree_where_it_is_no_outcome(self):
        self.assertFalse(is_outcome_tree(BARE, ("all",)))
        self.assertTrue(is_outcome_tree(BARE, ("take", 1, (("all",),))))
        self.assertFalse(is_outcome_tree(BARE, ("take", 1, (("no", 1),))))
        self.assertFalse(is_outcome_tree(LONE, ("take", 1, (("all",), ("all",)))))
        self.assertFalse(is_outcome_tree(LONE, ("take", 1, (("no", 1), ("no", 1)))))
        self.assertTrue(is_outcome_tree(LONE, ("take", 1, (("all",), ("no", 1)))))

    def test_wrong_routers(self):
        for router in [0, -1, 2, True, False, None, "1", (1,), [1]]:
            self.assertFalse(is_outcome_tree(LONE, ("take", router, (("all",), ("no", 1)))))
            self.assertFalse(is_outcome_tree(LONE, ("take", 1, (("all",), ("no", router)))))
        self.assertFalse(is_outcome_tree(LONE, ("no", 0)))
        self.assertFalse(is_outcome_tree(LONE, ("no", 1)))

    def test_a_router_is_taken_once(self):
        inner = ("take", 1, (("all",), ("no", 1)))
        self.assertFalse(is_outcome_tree(LONE, ("take", 1, (inner, ("no", 1)))))
        self.assertFalse(is_outcome_tree(LONE, ("take", 0, (inner,))))

    def test_wrong_numbers_of_trees(self):
        self.assertFalse(is_outcome_tree(LONE, ("take", 1, (("all",),))))
        self.assertFalse(is_outcome_tree(LONE, ("take", 1, (("all",), ("no", 1), ("no", 1)))))
        self.assertFalse(is_outcome_tree(LONE, ("take", 1, ())))
        self.assertFalse(is_outcome_tree(LONE, ("take", 1, [("all",), ("no", 1)])))

    def test_wrong_things(self):
        for wishes in (SWAP, BARE):
            for thing in helper.wrong_things() + [(), ("take",), ("take", 1), ("no",), ("none",), ("all", 1), ["all"]]:
                self.assertIs(is_outcome_tree(wishes, thing), False)

    def test_spoiled_trees(self):
        for wishes in (SWAP, PLAIN, BARE, LONE):
            for thing in helper.spoiled(outcome_tree(wishes)):
                self.assertIs(is_outcome_tree(wishes, thing), False)

    def test_trees_of_other_wishes(self):
        self.assertFalse(is_outcome_tree(PLAIN, outcome_tree(SWAP)))
        self.assertFalse(is_outcome_tree(SWAP, outcome_tree(PLAIN)))
        self.assertFalse(is_outcome_tree(BAD, outcome_tree(SWAP)))

    def test_nothing_is_changed(self):
        look = helper.frozen(self, BAD)
        is_outcome_tree(BAD, outcome_tree(BAD))
        look()


if __name__ == "__main__":
    unittest.main()
