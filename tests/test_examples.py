import unittest

from wishreels.costs import Costs, distances
from wishreels.outcomes import outcomes
from wishreels.patterns import fits
from wishreels.policies import Policy, Rule
from wishreels.reels import least_reel
from wishreels.rings import ladder, rings
from wishreels.roles import Roles, customer_ring, levels
from wishreels.settling import settles
from wishreels.strikings import settles_struck
from wishreels.talks import begin, done
from wishreels.wishes import Wishes as W

swap = W(((), ((1, 2, 0), (1, 0)), ((2, 1, 0), (2, 0))))
plain = W(((), ((1, 0),), ((2, 1, 0), (2, 0))))
bad = W(((), ((1, 2, 0), (1, 0)), ((2, 3, 0), (2, 0)), ((3, 1, 0), (3, 0))))


class ExamplesTest(unittest.TestCase):
    def test_e01(self):
        self.assertEqual(swap.lines(), [(1, 2), (2, 1)])
        self.assertEqual(swap.struck([(1, 0)]), W(((), ((1, 2, 0),), ((2, 0),))))

    def test_e02(self):
        self.assertEqual(outcomes(swap), [((0,), (1, 0), (2, 1, 0)), ((0,), (1, 2, 0), (2, 0))])
        self.assertEqual(outcomes(bad), [])

    def test_e03(self):
        self.assertEqual(done(swap, begin(swap), ("choose", 1)), (((0,), (1, 0), ()), ((), ())))

    def test_e04(self):
        self.assertIs(settles(plain), True)
        self.assertIs(settles(swap), False)
        self.assertIs(settles(bad), False)

    def test_e05(self):
        self.assertEqual(rings(swap), [((1, (1, 0), (1, 2, 0)), (2, (2, 0), (2, 1, 0)))])
        self.assertIsNone(ladder(swap))

    def test_e06(self):
        told = ((1, (1, 0), (1, 2, 0)), (2, (2, 0), (2, 3, 0)), (3, (3, 0), (3, 1, 0)))
        self.assertEqual(least_reel(bad), told)
        self.assertIs(settles_struck(plain), True)

    def test_e07(self):
        self.assertEqual(customer_ring(Roles(4, [(1, 2), (2, 3), (3, 1)], [])), (1, 2, 3))
        self.assertEqual(levels(Roles(3, [(0, 1), (1, 2)], [])), (0, 1, 2))

    def test_e08(self):
        self.assertIs(fits((2, "any", 0), (2, 5, 5, 0)), True)

    def test_e09(self):
        self.assertEqual(Policy((Rule(("any",), None, (3, ("a",), ())),)).answer((1, 0), ()), (3, ("a",)))

    def test_e10(self):
        self.assertEqual(distances(Costs(3, {(1, 0): 5, (2, 1): 2, (2, 0): 9}), 0), (0, 5, 7))


if __name__ == "__main__":
    unittest.main()
