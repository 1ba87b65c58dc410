import copy
import itertools
import random
import unittest

from tests import helper
from wishreels.errors import BadDeed, BadFlood, BadNumber, NoRouter
from wishreels.floods import Flood

LINKS = [(0, 1), (2, 1), (1, 2), (3, 2)]


class Slow:
    """A flood by the words of the document, with books that are changed in place."""

    def __init__(self, size, links):
        self.links = links
        self.books = [{} for _ in range(size)]
        self.contents = [None] * size

    def do(self, deed):
        before = copy.deepcopy((self.books, self.contents))
        if deed[0] == "write":
            _, r, content = deed
            number = self.books[r][r][0] + 1 if r in self.books[r] else 1
            self.contents[r] = content
            self.books[r][r] = (number, content)
        elif deed[0] == "pass":
            _, a, b = deed
            for router, entry in self.books[a].items():
                if self.books[b].get(router) is None or entry > self.books[b][router]:
                    self.books[b][router] = entry
                    if router == b and self.contents[b] is not None:
                        self.books[b][router] = (entry[0] + 1, self.contents[b])
        elif deed[0] == "restart":
            r = deed[1]
            self.books[r] = {} if self.contents[r] is None else {r: (1, self.contents[r])}
        return (self.books, self.contents) != before


def arrows_of(links):
    return sorted(set(links) | {(b, a) for a, b in links})


def some_links(chance, size):
    pairs = list(itertools.permutations(range(size), 2))
    return [chance.choice(pairs) for _ in range(chance.randint(0, 2 * size))] if pairs else []


def some_deeds(chance, size, links, many, words=("write", "pass", "pass", "pass", "lose", "restart")):
    deeds = []
    arrows = arrows_of(links)
    while len(deeds) < many:
        word = chance.choice(words)
        if word == "write":
            deeds.append((word, chance.randrange(size), chance.choice([0, 1, 2, 99])))
        elif word == "restart":
            deeds.append((word, chance.randrange(size)))
        elif arrows:
            deeds.append((word,) + chance.choice(arrows))
        else:
            deeds.append(("write", 0, 5))
    return deeds


def some_floods(seed, many):
    """Triples of a size, of links and of deeds, the same ones in each run."""
    chance = random.Random(seed)
    for _ in range(many):
        size = chance.randint(1, 8)
        links = some_links(chance, size)
        yield size, links, some_deeds(chance, size, links, chance.randint(0, 40))


def look_of(flood, size):
    return [(flood.book(router), flood.content(router)) for router in range(size)]


def joined_to(size, links, router):
    """The ascending list of the routers that are joined to one by links."""
    found = {router}
    for _ in range(size):
        found |= {b for a, b in arrows_of(links) if a in found}
    return sorted(found)


def wrong_deeds():
    """Things that are no deeds of a flood of 4 routers with LINKS."""
    right = [("write", 1, 5), ("pass", 1, 2), ("lose", 2, 1), ("restart", 1)]
    wrong = [thing for deed in right for thing in helper.spoiled(deed) if thing != ("write", 1, 99)]
    wrong += [
        ("write", 4, 5), ("write", -1, 5), ("write", 1, 100), ("write", 1, -1), ("write", 1, None), ("write", 1),
        ("write",), ("write", 1, 5, 5), ("write", True, 5), ("write", 1, True), ("pass", 0, 2), ("pass", 1, 1),
        ("pass", 1), ("pass", 1, 2, 3), ("pass", True, 2), ("pass", 1, False), ("pass", 3, 4), ("lose", 0, 3),
        ("lose", 1, 1), ("lose", 1), ("lose", 1, 2, 0), ("lose", 1, True), ("restart",), ("restart", 4),
        ("restart", -1), ("restart", 1, 2), ("restart", True), ("restart", None), ("begin", 1), ("begin", 1, 2),
        ("Write", 1, 5), ["restart", 1], ("pass", (1, 2)), ("pass", 1, 10 ** 29), ("write", 10 ** 29, 1),
        ("write", 1, 10 ** 29), (), ("restart", "1"), ("", 1), "restart", (b"restart", 1), ("lose", 3, 1)]
    return wrong + helper.wrong_things()


class MakingTest(unittest.TestCase):
    def test_all_is_empty_at_first(self):
        for size in range(1, 9):
            flood = Flood(size, [])
            self.assertEqual(look_of(flood, size), [({}, None)] * size)
            self.assertEqual(flood.many, 0)

    def test_wrong_sizes(self):
        for thing in helper.wrong_things() + [0, 9, 10, "2", 2.0]:
            with self.assertRaises(BadFlood) as caught:
                Flood(thing, None)
            self.assertEqual(caught.exception.part, "size")

    def test_wrong_links(self):
        wrong = [
            None, 1, "ab", {}, {(0, 1): 1}, set(), iter([]), [[0, 1]], [(0,)], [(0, 1, 2)], [(1, 1)], [(0, 4)],
            [(-1, 1)], [(True, 2)], [(0, True)], [("0", 1)], [None], (0, 1), [(0, 1), (2, 2)], [(0, 1), None], b"ab"]
        wrong += [thing for thing in helper.wrong_things() if not isinstance(thing, (list, tuple))]
        wrong += [[thing] for thing in helper.wrong_things() if thing != (0, 1)]
        for thing in wrong:
            with self.assertRaises(BadFlood) as caught:
                Flood(4, thing)
            self.assertEqual(caught.exception.part, "links")

    def test_a_link_may_stand_in_it_more_than_once_in_either_order(self):
        for links in ([(0, 1)], [(1, 0)], ((0, 1),), [(0, 1), (1, 0), (0, 1)]):
            flood = Flood(2, links)
            flood.do(("write", 1, 7))
            self.assertEqual(flood.rounds(), 1)
            self.assertEqual(flood.many, 3)
            self.assertEqual(flood.book(0), {1: (1, 7)})

    def test_it_keeps_a_copy_of_the_links(self):
        links = [(0, 1)]
        flood = Flood(3, links)
        links.append((1, 2))
        with self.assertRaises(BadDeed):
            flood.do(("pass", 1, 2))
        self.assertTrue(flood.is_calm())
        self.assertEqual(links, [(0, 1), (1, 2)])


class DeedsTest(unittest.TestCase):
    def test_writes(self):
        flood = Flood(3, [(0, 1)])
        self.assertIs(flood.do(("write", 1, 0)), True)
        self.assertEqual(look_of(flood, 3), [({}, None), ({1: (1, 0)}, 0), ({}, None)])
        self.assertIs(flood.do(("write", 1, 0)), True)
        self.assertIs(flood.do(("write", 1, 99)), True)
        self.assertEqual(look_of(flood, 3), [({}, None), ({1: (3, 99)}, 99), ({}, None)])
        self.assertEqual(flood.many, 3)

    def test_passes(self):
        flood = Flood(3, [(0, 1), (1, 2)])
        for deed in [("write", 0, 5), ("write", 0, 6), ("write", 1, 7)]:
            flood.do(deed)
        self.assertIs(flood.do(("pass", 0, 1)), True)
        self.assertEqual(flood.book(1), {0: (2, 6), 1: (1, 7)})
        self.assertEqual(flood.book(0), {0: (2, 6)})
        self.assertIs(flood.do(("pass", 0, 1)), False)
        self.assertIs(flood.do(("pass", 1, 2)), True)
        self.assertEqual(flood.book(2), {0: (2, 6), 1: (1, 7)})
        self.assertIsNone(flood.content(2))
        self.assertIs(flood.do(("pass", 2, 1)), False)
        self.assertEqual(flood.many, 7)

    def test_an_older_entry_is_not_taken(self):
        flood = Flood(3, [(0, 1), (1, 2), (0, 2)])
        for deed in [("write", 0, 5), ("pass", 0, 1), ("write", 0, 4), ("pass", 0, 2)]:
            flood.do(deed)
        self.assertIs(flood.do(("pass", 1, 2)), False)
        self.assertEqual(flood.book(2), {0: (2, 4)})
        self.assertIs(flood.do(("pass", 2, 1)), True)
        self.assertEqual(flood.book(1), {0: (2, 4)})

    def test_of_entries_with_one_number_the_greater_content_is_taken(self):
        flood = Flood(3, [(0, 1), (0, 2), (1, 2)])
        for deed in [("write", 0, 5), ("pass", 0, 1), ("write", 0, 8), ("restart", 0), ("pass", 0, 2)]:
            flood.do(deed)
        self.assertEqual((flood.book(1), flood.book(2)), ({0: (1, 5)}, {0: (1, 8)}))
        self.assertIs(flood.do(("pass", 1, 2)), False)
        self.assertIs(flood.do(("pass", 2, 1)), True)
        self.assertEqual(flood.book(1), {0: (1, 8)})

    def test_another_entry_for_itself_is_written_over(self):
        flood = Flood(2, [(0, 1)])
        for deed in [("write", 0, 5), ("write", 0, 6), ("write", 0, 3), ("pass", 0, 1), ("restart", 0)]:
            self.assertIs(flood.do(deed), True)
        self.assertEqual(flood.book(0), {0: (1, 3)})
        self.assertEqual(flood.book(1), {0: (3, 3)})
        self.assertIs(flood.do(("pass", 1, 0)), True)
        self.assertEqual(flood.book(0), {0: (4, 3)})
        self.assertIs(flood.do(("pass", 1, 0)), False)

    def test_a_content_as_new_as_its_own_but_greater_is_written_over(self):
        flood = Flood(2, [(0, 1)])
        for deed in [("write", 0, 9), ("pass", 0, 1), ("restart", 0), ("write", 0, 4), ("restart", 0), ("pass", 1, 0)]:
            flood.do(deed)
        self.assertEqual(flood.book(0), {0: (2, 4)})

    def test_losses_change_nothing(self):
        flood = Flood(2, [(0, 1)])
        flood.do(("write", 0, 5))
        self.assertIs(flood.do(("lose", 0, 1)), False)
        self.assertIs(flood.do(("lose", 1, 0)), False)
        self.assertEqual(look_of(flood, 2), [({0: (1, 5)}, 5), ({}, None)])
        self.assertEqual(flood.many, 3)

    def test_restarts(self):
        flood = Flood(2, [(0, 1)])
        self.assertIs(flood.do(("restart", 0)), False)
        for deed in [("write", 0, 5), ("pass", 0, 1)]:
            flood.do(deed)
        self.assertIs(flood.do(("restart", 0)), False)
        self.assertIs(flood.do(("restart", 1)), True)
        self.assertEqual(look_of(flood, 2), [({0: (1, 5)}, 5), ({}, None)])
        flood.do(("write", 0, 6))
        self.assertIs(flood.do(("restart", 0)), True)
        self.assertEqual(look_of(flood, 2), [({0: (1, 6)}, 6), ({}, None)])

    def test_rows_of_deeds_by_the_words(self):
        for size, links, deeds in some_floods(101, 120):
            flood, slow = Flood(size, links), Slow(size, links)
            for many, deed in enumerate(deeds):
                self.assertEqual(flood.many, many)
                self.assertIs(flood.do(deed), slow.do(deed))
                self.assertEqual(look_of(flood, size), list(zip(slow.books, slow.contents)))
                self.assertEqual([list(flood.book(r)) for r in range(size)], [sorted(b) for b in slow.books])

    def test_wrong_deeds_change_nothing(self):
        flood = Flood(4, LINKS)
        flood.do(("write", 1, 7))
        for thing in wrong_deeds():
            with self.assertRaises(BadDeed):
                flood.do(thing)
        self.assertEqual(look_of(flood, 4), [({}, None), ({1: (1, 7)}, 7), ({}, None), ({}, None)])
        self.assertEqual(flood.many, 1)

    def test_no_router(self):
        flood = Flood(3, [])
        for thing in helper.wrong_things() + [3]:
            for ask in (flood.book, flood.content):
                with self.assertRaises(NoRouter) as caught:
                    ask(thing)
                self.assertIs(caught.exception.router, thing)

    def test_books_are_new_and_ascending(self):
        flood = Flood(3, [(0, 1), (1, 2)])
        for deed in [("write", 1, 1), ("write", 2, 2), ("pass", 2, 1), ("write", 0, 0), ("pass", 0, 1)]:
            flood.do(deed)
        book = flood.book(1)
        self.assertEqual(list(book.items()), [(0, (1, 0)), (1, (1, 1)), (2, (1, 2))])
        book.clear()
        self.assertEqual(flood.book(1), {0: (1, 0), 1: (1, 1), 2: (1, 2)})


class BackTest(unittest.TestCase):
    def test_taken_back_to_each_place(self):
        for size, links, deeds in some_floods(102, 20):
            flood = Flood(size, links)
            looks = [look_of(flood, size)]
            for deed in deeds:
                flood.do(deed)
                looks.append(look_of(flood, size))
            for many in range(1, len(deeds) + 1):
                self.assertIsNone(flood.back(many))
                self.assertEqual(flood.many, len(deeds) - many)
                self.assertEqual(look_of(flood, size), looks[-1 - many])
                for deed in deeds[len(deeds) - many:]:
                    flood.do(deed)
                self.assertEqual(look_of(flood, size), looks[-1])

    def test_bit_by_bit(self):
        flood = Flood(2, [(0, 1)])
        for content in range(5):
            flood.do(("write", 0, content))
        flood.back(2)
        flood.back(1)
        self.assertEqual((flood.many, flood.book(0)), (2, {0: (2, 1)}))
        flood.do(("write", 0, 9))
        flood.back(2)
        self.assertEqual((flood.many, flood.book(0)), (1, {0: (1, 0)}))
        flood.back(1)
        self.assertEqual(look_of(flood, 2), [({}, None), ({}, None)])

    def test_what_was_taken_back_is_gone(self):
        flood = Flood(2, [(0, 1)])
        for content in range(5):
            flood.do(("write", 0, content))
        flood.back(3)
        for content in (9, 8, 7):
            flood.do(("write", 0, content))
        flood.back(1)
        self.assertEqual((flood.many, flood.book(0)), (4, {0: (4, 8)}))
        flood.back(1)
        self.assertEqual((flood.many, flood.book(0)), (3, {0: (3, 9)}))

    def test_rounds_are_taken_back_deed_by_deed(self):
        flood = Flood(2, [(0, 1)])
        flood.do(("write", 1, 4))
        flood.rounds()
        flood.back(1)
        self.assertEqual((flood.many, flood.book(0)), (2, {}))

    def test_wrong_numbers(self):
        flood = Flood(2, [(0, 1)])
        with self.assertRaises(BadNumber):
            flood.back(1)
        flood.do(("write", 1, 4))
        flood.do(("lose", 1, 0))
        for thing in helper.wrong_things() + [0, 3, "1", 1.0]:
            with self.assertRaises(BadNumber):
                flood.back(thing)
        self.assertEqual((flood.many, flood.content(1)), (2, 4))


class CalmTest(unittest.TestCase):
    def test_calm_if_no_pass_changes_anything(self):
        for size, links, deeds in some_floods(103, 60):
            flood = Flood(size, links)
            for deed in deeds[:10]:
                flood.do(deed)
            many = flood.many
            calm = flood.is_calm()
            self.assertEqual(flood.many, many)
            moved = []
            for a, b in arrows_of(links):
                moved.append(flood.do(("pass", a, b)))
                flood.back(1)
            self.assertIs(calm, not any(moved))

    def test_one_way_is_looked_at_and_the_other(self):
        for router in (0, 1):
            flood = Flood(2, [(0, 1)])
            self.assertIs(flood.is_calm(), True)
            flood.do(("write", router, 4))
            self.assertIs(flood.is_calm(), False)
            flood.do(("pass", router, 1 - router))
            self.assertIs(flood.is_calm(), True)

    def test_rounds_by_the_words(self):
        most = {}
        for size, links, deeds in some_floods(104, 150):
            flood, slow = Flood(size, links), Slow(size, links)
            for deed in deeds:
                flood.do(deed)
                slow.do(deed)
            many = 0
            while any(copy.deepcopy(slow).do(("pass", a, b)) for a, b in arrows_of(links)):
                for a, b in arrows_of(links):
                    slow.do(("pass", a, b))
                many += 1
            self.assertEqual(flood.rounds(), many)
            self.assertEqual(look_of(flood, size), list(zip(slow.books, slow.contents)))
            self.assertEqual(flood.many, len(deeds) + many * len(arrows_of(links)))
            self.assertIs(flood.is_calm(), True)
            self.assertEqual(flood.rounds(), 0)
            self.assertLessEqual(many, 2 * size - 2)
            most[size] = max(most.get(size, 0), many)
        self.assertGreater(max(most.values()), 2)

    def test_rounds_against_the_order_of_the_passes(self):
        links = [(router, router + 1) for router in range(7)]
        flood = Flood(8, links)
        flood.do(("write", 0, 1))
        self.assertEqual(flood.rounds(), 1)
        flood = Flood(8, links)
        flood.do(("write", 7, 1))
        self.assertEqual(flood.rounds(), 7)

    def test_the_fourth_fact(self):
        chance = random.Random(105)
        for size, links, deeds in some_floods(106, 60):
            flood = Flood(size, links)
            for deed in deeds:
                flood.do(deed)
            arrows = arrows_of(links)
            for _ in range(2 * size):
                chance.shuffle(arrows)
                for a, b in arrows:
                    flood.do(("pass", a, b))
            self.assertIs(flood.is_calm(), True)
            for one in range(size):
                for other in joined_to(size, links, one):
                    self.assertEqual(flood.book(one), flood.book(other))
                    if flood.content(other) is not None:
                        self.assertEqual(flood.book(one)[other][1], flood.content(other))


if __name__ == "__main__":
    unittest.main()
