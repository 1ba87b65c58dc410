import itertools
import random
import unittest

from tests import helper
from wishreels.errors import BadPattern, BadRow
from wishreels.patterns import fits


def fits_by_words(pattern, routers):
    """Whether a tuple of routers is put together of one piece for each item, in order."""
    if not pattern:
        return not routers
    if pattern[0] == "any":
        return any(fits_by_words(pattern[1:], routers[many:]) for many in range(len(routers) + 1))
    return len(routers) > 0 and pattern[0] in ("one", routers[0]) and fits_by_words(pattern[1:], routers[1:])


def some_patterns(seed, many, longest):
    """Patterns of any kind over few routers, the same ones in each run."""
    chance = random.Random(seed)
    items = [0, 1, 2, "one", "any", "any"]
    return [tuple(chance.choice(items) for _ in range(chance.randint(0, longest))) for _ in range(many)]


class FitsTest(unittest.TestCase):
    def test_single_items(self):
        for router in range(8):
            for other in range(8):
                self.assertIs(fits((router,), (other,)), router == other)
            self.assertIs(fits(("one",), (router,)), True)
            self.assertIs(fits(("any",), (router,)), True)

    def test_how_many_routers_they_take(self):
        for many in range(5):
            routers = (3,) * many
            self.assertIs(fits((), routers), many == 0)
            self.assertIs(fits((3,), routers), many == 1)
            self.assertIs(fits(("one",), routers), many == 1)
            self.assertIs(fits(("any",), routers), True)
            self.assertIs(fits(("any", "one", "any", 3), routers), many >= 2)

    def test_order_and_places(self):
        self.assertIs(fits((2, "any", 0), (2, 5, 5, 0)), True)
        self.assertIs(fits((2, "any", 0), (2, 0)), True)
        self.assertIs(fits((2, "any", 0), (0, 2)), False)
        self.assertIs(fits((2, "any", 0), (2, 0, 1)), False)
        self.assertIs(fits(("any", 1, "any", 1, "any"), (5, 1, 1)), True)
        self.assertIs(fits(("any", 1, "any", 1, "any"), (1, 5, 5)), False)
        self.assertIs(fits(("one", "one", "any", 0), (1, 0, 0)), True)
        self.assertIs(fits(("one", "one", "any", 0), (1, 0)), False)

    def test_eight_items(self):
        self.assertIs(fits(("any",) * 8, ()), True)
        self.assertIs(fits(("one",) * 8, tuple(range(8))), True)
        self.assertIs(fits(("one",) * 8, tuple(range(7))), False)
        self.assertIs(fits(tuple(range(8)), tuple(range(8))), True)
        self.assertIs(fits(tuple(range(8)), tuple(range(7)) + (6,)), False)
        self.assertIs(fits(("any", "one") * 4, (7, 7, 7)), False)
        self.assertIs(fits(("any", "one") * 4, (7, 7, 7, 7)), True)

    def test_by_the_words(self):
        rows = [row for many in range(6) for row in itertools.product(range(3), repeat=many)]
        seen = {True: 0, False: 0}
        for pattern in some_patterns(101, 60, 8):
            for row in rows:
                told = fits(pattern, row)
                self.assertIs(told, fits_by_words(pattern, row))
                seen[told] += 1
        self.assertGreater(min(seen.values()), 1000)

    def test_very_many_routers(self):
        self.assertIs(fits(("any", 1, "any", 2, "any"), (0,) * 5000 + (1,) + (7,) * 5000 + (2,)), True)
        self.assertIs(fits(("any", 1, "any", 2, "any"), (0,) * 5000 + (2,) + (7,) * 5000 + (1,)), False)

    def test_no_pattern(self):
        wrong = [
            None, [], ["one"], "one", "any", 1, (8,), (-1,), ("two",), ("",), ("One",), ("one ",), (b"one",), (None,),
            (True,), (False,), (("one",),), ([],), ("one",) * 9, (1,) * 9, {}, {"one": 1}, (10 ** 29,), ("1",), ("any", 8)]
        for thing in wrong + [thing for thing in helper.wrong_things() if not plain(thing)]:
            for routers in ((), (1,), None, [1]):
                with self.assertRaises(BadPattern):
                    fits(thing, routers)

    def test_no_row(self):
        wrong = [None, [], [1], "1", 1, (8,), (-1,), (True,), (0, False), ("one",), (None,), ((1,),), (1, 2, 8), {1}, b"\x01"]
        for thing in wrong + [thing for thing in helper.wrong_things() if not plain(thing)]:
            for pattern in ((), ("any",), (1,)):
                with self.assertRaises(BadRow):
                    fits(pattern, thing)


def plain(thing):
    """Whether a thing is a tuple of integers from 0 to 7: a pattern, and a row."""
    return isinstance(thing, tuple) and len(thing) < 9 and all(type(item) is int and 0 <= item < 8 for item in thing)


if __name__ == "__main__":
    unittest.main()
