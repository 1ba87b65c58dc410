import unittest

from wishreels.costs import Costs, distances
from wishreels.desk import Desk
from wishreels.fields import Field, fate, least_address
from wishreels.outcomes import outcomes
from wishreels.patterns import fits
from wishreels.policies import Policy, Rule
from wishreels.reels import least_reel
from wishreels.rings import ladder, rings
from wishreels.roles import Roles, customer_ring, levels
from wishreels.settling import settles
from wishreels.strikings import settles_struck
from wishreels.tables import Table, joined, parts
from wishreels.talks import begin, done
from wishreels.texts import wishes_text
from wishreels.wishes import Wishes as W

swap = W(((), ((1, 2, 0), (1, 0)), ((2, 1, 0), (2, 0))))
plain = W(((), ((1, 0),), ((2, 1, 0), (2, 0))))
bad = W(((), ((1, 2, 0), (1, 0)), ((2, 3, 0), (2, 0)), ((3, 1, 0), (3, 0))))


class ExamplesTest(unittest.TestCase):
    def test_e01(self):
        self.assertEqual(swap.lines(), [(1, 2), (2, 1)])
        self.assertEqual(swap.struck([(1, 0)]), W(((), ((1, 2, 0),), ((2, 0),))))

    def test_e02(self):
        self.assertEqual(outcomes(swap), [((0,), (1, 0), (2, 1, 0)), ((0,), (1, 2, 0), (2, 0))])
        self.assertEqual(outcomes(bad), [])

    def test_e03(self):
        self.assertEqual(done(swap, begin(swap), ("choose", 1)), (((0,), (1, 0), ()), ((), ())))

    def test_e04(self):
        self.assertIs(settles(plain), True)
        self.assertIs(settles(swap), False)
        self.assertIs(settles(bad), False)

    def test_e05(self):
        self.assertEqual(rings(swap), [((1, (1, 0), (1, 2, 0)), (2, (2, 0), (2, 1, 0)))])
        self.assertIsNone(ladder(swap))

    def test_e06(self):
        told = ((1, (1, 0), (1, 2, 0)), (2, (2, 0), (2, 3, 0)), (3, (3, 0), (3, 1, 0)))
        self.assertEqual(least_reel(bad), told)
        self.assertIs(settles_struck(plain), True)

    def test_e07(self):
        self.assertEqual(customer_ring(Roles(4, [(1, 2), (2, 3), (3, 1)], [])), (1, 2, 3))
        self.assertEqual(levels(Roles(3, [(0, 1), (1, 2)], [])), (0, 1, 2))

    def test_e08(self):
        self.assertIs(fits((2, "any", 0), (2, 5, 5, 0)), True)

    def test_e09(self):
        self.assertEqual(Policy((Rule(("any",), None, (3, ("a",), ())),)).answer((1, 0), ()), (3, ("a",)))

    def test_e10(self):
        self.assertEqual(distances(Costs(3, {(1, 0): 5, (2, 1): 2, (2, 0): 9}), 0), (0, 5, 7))

    def test_e11(self):
        self.assertEqual(Table([("", 1), ("01", "here")]).onward("0100000000"), "here")
        self.assertEqual(joined(["00", "01", "010"]), ["0"])

    def test_e12(self):
        field = Field((Table([("", 1)]), Table([("", 0), ("1", "here")])))
        self.assertEqual(fate(field, 0, "0000000000"), ("round", (0, 1)))

    def test_e13(self):
        self.assertEqual(wishes_text(swap), "1: 1-2-0 1-0\n2: 2-1-0 2-0\n")

    def test_e14(self):
        desk = Desk()
        self.assertEqual(desk.tell("wishes a 1: 1-2-0 1-0|2: 2-1-0 2-0|"), "ok")
        self.assertEqual(desk.tell("outcomes a"), "1-0 2-1-0; 1-2-0 2-0")
        self.assertEqual(desk.tell("reel a"), "1-0<1-2-0 2-0<2-1-0")
        self.assertEqual(desk.would("drop a"), "ok")
        self.assertEqual(desk.tell("names"), "a")

    def test_e15(self):
        self.assertEqual(parts(Table([("", 1), ("01", "here")])), [("00", 1), ("01", "here"), ("1", 1)])

    def test_e16(self):
        field = Field((Table([("", 1)]), Table([("", 0), ("1", "here")])))
        self.assertEqual(least_address(field, 0, "here"), "1000000000")


if __name__ == "__main__":
    unittest.main()
