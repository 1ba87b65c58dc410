import unittest

from wishreels.outcomes import outcomes
from wishreels.wishes import Wishes as W

swap = W(((), ((1, 2, 0), (1, 0)), ((2, 1, 0), (2, 0))))
plain = W(((), ((1, 0),), ((2, 1, 0), (2, 0))))
bad = W(((), ((1, 2, 0), (1, 0)), ((2, 3, 0), (2, 0)), ((3, 1, 0), (3, 0))))


class ExamplesTest(unittest.TestCase):
    def test_e01(self):
        self.assertEqual(swap.lines(), [(1, 2), (2, 1)])
        self.assertEqual(swap.struck([(1, 0)]), W(((), ((1, 2, 0),), ((2, 0),))))

    def test_e02(self):
        self.assertEqual(outcomes(swap), [((0,), (1, 0), (2, 1, 0)), ((0,), (1, 2, 0), (2, 0))])
        self.assertEqual(outcomes(bad), [])


if __name__ == "__main__":
    unittest.main()
