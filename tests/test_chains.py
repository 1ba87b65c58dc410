import itertools
import random
import unittest

from tests import helper
from tests.test_floods import LINKS, Slow, some_deeds, some_links, wrong_deeds
from wishreels.chains import is_chain, latest
from wishreels.errors import BadDeeds, BadFlood, NoRouter

DEEDS = [("write", 0, 5), ("pass", 0, 1), ("write", 0, 6), ("lose", 0, 1), ("pass", 1, 2), ("write", 3, 5)]


def cases(seed, many, most):
    """Tuples of a size, of links and of deeds without restarts, the same ones in each run."""
    chance = random.Random(seed)
    for _ in range(many):
        size = chance.randint(1, 4)
        links = some_links(chance, size)
        yield size, links, some_deeds(chance, size, links, chance.randint(0, most), ("write", "pass", "pass", "lose"))


def is_chain_by_words(deeds, r, b, row):
    first, *passes = [deeds[index] for index in row]
    if first[:2] != ("write", r) or any(deed[0] != "pass" for deed in passes):
        return False
    heads = [r] + [deed[2] for deed in passes]
    return all(deed[1] == head for deed, head in zip(passes, heads)) and heads[-1] == b


def chains_of(deeds, r):
    """All pairs of a chain from r and the router to which it leads."""
    found = [((index,), r) for index, deed in enumerate(deeds) if deed[:2] == ("write", r)]
    for row, head in found:
        passes = [at for at in range(row[-1] + 1, len(deeds)) if deeds[at][:2] == ("pass", head)]
        found += [(row + (at,), deeds[at][2]) for at in passes]
    return found


def rows_of(many, most):
    return [row for length in range(1, most + 1) for row in itertools.combinations(range(many), length)]


class LatestTest(unittest.TestCase):
    def test_some(self):
        self.assertEqual(latest(4, LINKS, DEEDS, 0, 2), (0, 1, 4))
        self.assertEqual(latest(4, LINKS, DEEDS, 0, 1), (0, 1))
        self.assertEqual(latest(4, LINKS, DEEDS, 0, 0), (2,))
        self.assertEqual(latest(4, LINKS, DEEDS, 3, 3), (5,))
        self.assertIsNone(latest(4, LINKS, DEEDS, 0, 3))
        self.assertIsNone(latest(4, LINKS, DEEDS, 3, 2))
        self.assertIsNone(latest(4, LINKS, DEEDS, 1, 1))
        self.assertIsNone(latest(1, [], [], 0, 0))

    def test_a_later_pass_may_bring_an_older_write(self):
        links = [(0, 1), (1, 2), (0, 2)]
        deeds = [("write", 0, 1), ("pass", 0, 1), ("write", 0, 2), ("pass", 0, 2), ("pass", 1, 2)]
        self.assertEqual(latest(3, links, deeds, 0, 2), (2, 3))
        self.assertEqual(latest(3, links, deeds[:3] + deeds[4:], 0, 2), (0, 1, 3))

    def test_the_write_is_the_latest_of_all_chains(self):
        seen = 0
        for size, links, deeds in cases(201, 300, 30):
            for r, b in itertools.product(range(size), repeat=2):
                chains = [row for row, head in chains_of(deeds, r) if head == b]
                found = latest(size, tuple(links), tuple(deeds), r, b)
                if chains:
                    self.assertIn(found, chains)
                    self.assertEqual(found[0], max(row[0] for row in chains))
                    self.assertTrue(is_chain(size, links, deeds, r, b, found))
                    seen += len(found) > 2
                else:
                    self.assertIsNone(found)
        self.assertGreater(seen, 20)

    def test_the_book_has_what_that_write_wrote(self):
        for size, links, deeds in cases(202, 100, 40):
            flood = Slow(size, links)
            for deed in deeds:
                flood.do(deed)
            for r, b in itertools.product(range(size), repeat=2):
                found = latest(size, links, deeds, r, b)
                if found is None:
                    self.assertNotIn(r, flood.books[b])
                else:
                    number = [deed[:2] for deed in deeds[:found[0] + 1]].count(("write", r))
                    self.assertEqual(flood.books[b][r], (number, deeds[found[0]][2]))

    def test_it_changes_no_arguments(self):
        links, deeds = list(LINKS), list(DEEDS)
        latest(4, links, deeds, 0, 2)
        is_chain(4, links, deeds, 0, 2, (0, 1, 4))
        self.assertEqual((links, deeds), (LINKS, DEEDS))

    def test_long_rows_of_deeds(self):
        deeds = [("write", 0, 1)] + [("pass", 0, 1), ("pass", 1, 0)] * 20000 + [("pass", 1, 2)]
        self.assertEqual(latest(3, [(0, 1), (1, 2)], deeds, 0, 2), (0, 1, 40001))


class WrongTest(unittest.TestCase):
    def test_flood(self):
        for thing in helper.wrong_things() + [0, 9]:
            with self.assertRaises(BadFlood) as caught:
                latest(thing, None, None, None, None)
            self.assertEqual(caught.exception.part, "size")
        for thing in [None, (0, 1), [(0, 4)], [(1, 1)], [(True, 0)], [[0, 1]], {}, "ab", [(0, 1), None]]:
            with self.assertRaises(BadFlood) as caught:
                latest(4, thing, None, None, None)
            self.assertEqual(caught.exception.part, "links")

    def test_deeds(self):
        for thing in [None, 1, "ab", {}, {("write", 0, 5): 1}, set(), iter(DEEDS), DEEDS[0][0], object()]:
            with self.assertRaises(BadDeeds) as caught:
                latest(4, LINKS, thing, None, None)
            self.assertEqual(caught.exception.index, -1)
        for thing in helper.wrong_things():
            if not isinstance(thing, (list, tuple)):
                with self.assertRaises(BadDeeds) as caught:
                    latest(4, LINKS, thing, None, None)
                self.assertEqual(caught.exception.index, -1)
        for thing in wrong_deeds() + [("restart", 1), ("restart", 0)]:
            for place in (0, 2, 6):
                with self.assertRaises(BadDeeds) as caught:
                    latest(4, LINKS, DEEDS[:place] + [thing] + DEEDS[place:] + [None], None, None)
                self.assertEqual(caught.exception.index, place)
        with self.assertRaises(BadDeeds) as caught:
            latest(4, LINKS, DEEDS[0], None, None)
        self.assertEqual(caught.exception.index, 0)

    def test_routers(self):
        for thing in helper.wrong_things() + [4]:
            for r, b in [(thing, 0), (0, thing), (thing, None)]:
                with self.assertRaises(NoRouter) as caught:
                    latest(4, LINKS, DEEDS, r, b)
                self.assertIs(caught.exception.router, thing)


class IsChainTest(unittest.TestCase):
    def test_by_the_words(self):
        seen = [0, 0]
        for size, links, deeds in cases(203, 40, 8):
            rows = rows_of(len(deeds), 7)
            for r, b in itertools.product(range(size), repeat=2):
                for row in rows:
                    told = is_chain_by_words(deeds, r, b, row)
                    self.assertIs(is_chain(size, links, deeds, r, b, row), told)
                    seen[told] += 1
        self.assertGreater(seen[True], 50)

    def test_some(self):
        deeds = tuple(DEEDS)
        self.assertIs(is_chain(4, LINKS, deeds, 0, 2, (0, 1, 4)), True)
        self.assertIs(is_chain(4, LINKS, deeds, 0, 0, (0,)), True)
        self.assertIs(is_chain(4, LINKS, deeds, 0, 0, (2,)), True)
        self.assertIs(is_chain(4, LINKS, deeds, 0, 0, (0, 2)), False)
        for row in [(1, 0, 4), (0, 4, 1), (4, 1, 0), (0, 4), (2, 4), (0, 1), (1, 4), (), (0, 3, 4), (2, 3, 4), (0, 1, 6),
                    (0, 1, -2), (0, 1, 1, 4), (0, 0, 1, 4), [0, 1, 4], (0, 1, 10 ** 29)]:
            self.assertIs(is_chain(4, LINKS, deeds, 0, 2, row), False)

    def test_there_and_back(self):
        deeds = [("write", 0, 1), ("pass", 0, 1), ("pass", 1, 0), ("pass", 0, 1)]
        self.assertIs(is_chain(2, [(0, 1)], deeds, 0, 1, (0, 1, 2, 3)), True)
        self.assertIs(is_chain(2, [(0, 1)], deeds, 0, 0, (0, 1, 2)), True)
        self.assertIs(is_chain(2, [(0, 1)], deeds[1:] + deeds[:1], 0, 0, (3, 0, 1)), False)

    def test_any_object(self):
        for thing in helper.wrong_things() + list(helper.spoiled((0, 1, 4))):
            self.assertIs(is_chain(4, LINKS, DEEDS, 0, 2, thing), False)
            self.assertIs(is_chain(4, LINKS, [], 0, 2, thing), False)


if __name__ == "__main__":
    unittest.main()
