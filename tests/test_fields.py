import random
import unittest

from tests import helper
from tests.test_tables import ADDRESSES, RANGES, some_tables, widest, wrong_ranges
from wishreels.errors import BadAddress, BadField, BadRanges, BadWord, NoRouter
from wishreels.fields import Field, all_rounds, fate, fates, holes, least_address
from wishreels.tables import Table

TO_ONE = Table([("", 1)])
BACK = Table([("", 0), ("1", "here")])
PAIR = Field((TO_ONE, BACK))
ZERO = "0" * 10
ONE = "1" + "0" * 9


def some_fields(seed, many):
    """Fields of any kind, the same ones in each run."""
    chance = random.Random(seed)
    found = []
    for _ in range(many):
        size = chance.randint(1, 8)
        nexts = chance.choice([["here", "drop"], [], ["here"]]) + list(range(size)) * chance.randint(1, 3)
        tables = some_tables(chance.random(), 3 + size, nexts)[3:]
        found.append(Field(tuple(tables)))
    return found


def fate_by_words(field, start, address):
    """The fate, by going on longer than a packet can without coming to a router twice."""
    there, steps = start, 0
    for _ in range(field.size):
        onto = field.table(there).onward(address)
        if onto in ("here", "drop"):
            return (onto, there, steps)
        there, steps = onto, steps + 1
    row = [there]
    while (onto := field.table(row[-1]).onward(address)) != there:
        row.append(onto)
    while row[0] != min(row):
        row.append(row.pop(0))
    return ("round", tuple(row))


class MakingTest(unittest.TestCase):
    def test_fields(self):
        self.assertEqual(PAIR.size, 2)
        self.assertEqual((PAIR.table(0), PAIR.table(1)), (TO_ONE, BACK))
        for size in range(1, 9):
            self.assertEqual(Field((Table([("", size - 1)]),) * size).size, size)

    def test_no_tuple_of_1_to_8(self):
        wrong = [None, [], [TO_ONE, TO_ONE], (), (Table([]),) * 9, (None,) * 9, {0: TO_ONE}, iter((TO_ONE,)), TO_ONE, 1]
        for thing in wrong + [thing for thing in helper.wrong_things() if not isinstance(thing, tuple)]:
            with self.assertRaises(BadField) as caught:
                Field(thing)
            self.assertEqual(caught.exception.router, -1)

    def test_wrong_items(self):
        wrong = [thing for thing in helper.wrong_things() if not isinstance(thing, Table)]
        wrong += [TO_ONE.entries, Table, Table([("", 3)]), Table([("", 0), ("0", 7)]), Table([("0", "drop"), ("1", 4)])]
        for thing in wrong:
            for router, tables in enumerate([(thing, None, TO_ONE), (BACK, thing, None), (BACK, TO_ONE, thing)]):
                with self.assertRaises(BadField) as caught:
                    Field(tables)
                self.assertEqual(caught.exception.router, router)
        with self.assertRaises(BadField) as caught:
            Field((TO_ONE,))
        self.assertEqual(caught.exception.router, 0)

    def test_no_router(self):
        for thing in helper.wrong_things() + [2]:
            calls = [lambda: PAIR.table(thing), lambda: fate(PAIR, thing, None), lambda: fates(PAIR, thing),
                     lambda: least_address(PAIR, thing, None), lambda: holes(PAIR, thing, None)]
            for call in calls:
                with self.assertRaises(NoRouter) as caught:
                    call()
                self.assertIs(caught.exception.router, thing)


class FateTest(unittest.TestCase):
    def test_some(self):
        self.assertEqual(fate(PAIR, 0, ZERO), ("round", (0, 1)))
        self.assertEqual(fate(PAIR, 1, ZERO), ("round", (0, 1)))
        self.assertEqual(fate(PAIR, 0, ONE), ("here", 1, 1))
        self.assertEqual(fate(PAIR, 1, ONE), ("here", 1, 0))
        self.assertEqual(fate(Field((TO_ONE, Table([]))), 0, ONE), ("drop", 1, 1))
        self.assertEqual(fate(Field((Table([]),)), 0, ONE), ("drop", 0, 0))

    def test_rounds(self):
        self.assertEqual(fate(Field((Table([("", 0)]),)), 0, ONE), ("round", (0,)))
        tail = Field(tuple(Table([("", onto)]) for onto in (4, 3, 1, 2, 2)))
        for start in range(5):
            self.assertEqual(fate(tail, start, ONE), ("round", (1, 3, 2)))
        self.assertEqual(fate(Field((Table([("", 1)]), Table([("", 1)]))), 0, ONE), ("round", (1,)))

    def test_the_longest_way(self):
        row = Field(tuple(Table([("", router + 1)]) for router in range(7)) + (Table([("", "here")]),))
        for start in range(8):
            self.assertEqual(fate(row, start, ONE), ("here", 7, 7 - start))
        ring = Field(tuple(Table([("", (router + 3) % 8)]) for router in range(8)))
        for start in range(8):
            self.assertEqual(fate(ring, start, ONE), ("round", (0, 3, 6, 1, 4, 7, 2, 5)))

    def test_by_the_words(self):
        words = {"here": 0, "drop": 0, "round": 0}
        for field in some_fields(601, 30):
            for start in range(field.size):
                for address in ADDRESSES[::37]:
                    told = fate_by_words(field, start, address)
                    self.assertEqual(fate(field, start, address), told)
                    words[told[0]] += 1
        self.assertGreater(min(words.values()), 100)

    def test_wrong_addresses(self):
        for thing in helper.wrong_things() + ["000000000", "00000000000", "000000000x", ZERO.encode(), "000000000\n"]:
            with self.assertRaises(BadAddress):
                fate(PAIR, 0, thing)


class FatesTest(unittest.TestCase):
    def test_some(self):
        self.assertEqual(fates(PAIR, 0), [("0", ("round", (0, 1))), ("1", ("here", 1, 1))])
        self.assertEqual(fates(PAIR, 1), [("0", ("round", (0, 1))), ("1", ("here", 1, 0))])
        self.assertEqual(fates(Field((Table([]),)), 0), [("", ("drop", 0, 0))])
        # The next ones are unlike, but the fates are alike.
        field = Field((Table([("0", 1), ("1", 2)]), Table([("", 2)]), Table([("", 1)])))
        self.assertEqual(fates(field, 0), [("", ("round", (1, 2)))])

    def test_by_the_words(self):
        for field in some_fields(602, 12):
            for start in range(field.size):
                self.assertEqual(fates(field, start), widest(lambda address: fate_by_words(field, start, address)))


class LeastAddressTest(unittest.TestCase):
    def test_some(self):
        self.assertEqual(least_address(PAIR, 0, "here"), ONE)
        self.assertEqual(least_address(PAIR, 0, "round"), ZERO)
        self.assertIsNone(least_address(PAIR, 0, "drop"))
        self.assertEqual(least_address(Field((Table([("", "here"), ("1111111111", "drop")]),)), 0, "drop"), "1" * 10)

    def test_by_the_words(self):
        for field in some_fields(603, 12):
            for start in range(field.size):
                ends = [fate_by_words(field, start, address)[0] for address in ADDRESSES]
                for word in ("here", "drop", "round"):
                    told = ADDRESSES[ends.index(word)] if word in ends else None
                    self.assertEqual(least_address(field, start, word), told)

    def test_wrong_words(self):
        for thing in helper.wrong_things() + ["Here", "her", "rounds", ("here",), ["here"], b"here", " here"]:
            with self.assertRaises(BadWord):
                least_address(PAIR, 0, thing)


class AllRoundsTest(unittest.TestCase):
    def test_some(self):
        self.assertEqual(all_rounds(PAIR), [((0, 1), ZERO)])
        self.assertEqual(all_rounds(Field((TO_ONE, Table([("1", 0), ("0", 1)])))), [((0, 1), ONE), ((1,), ZERO)])
        self.assertEqual(all_rounds(Field((Table([]),))), [])

    def test_by_the_words(self):
        most = 0
        for field in some_fields(604, 12):
            found = {}
            for address in ADDRESSES:
                for start in range(field.size):
                    end = fate_by_words(field, start, address)
                    if end[0] == "round":
                        found.setdefault(end[1], address)
            self.assertEqual(all_rounds(field), sorted(found.items()))
            most = max(most, len(found))
        self.assertGreater(most, 5)


class HolesTest(unittest.TestCase):
    def test_some(self):
        self.assertEqual(holes(PAIR, 0, [""]), ["0"])
        self.assertEqual(holes(PAIR, 0, ("1",)), [])
        self.assertEqual(holes(PAIR, 0, []), [])
        self.assertEqual(holes(PAIR, 0, ["01", "00", "11"]), ["0"])
        self.assertEqual(holes(PAIR, 0, ["011", "001", "0010"]), ["001", "011"])
        self.assertEqual(holes(Field((Table([("0", "here")]),)), 0, ["", "0"]), ["1"])

    def test_by_the_words(self):
        chance = random.Random(605)
        for field in some_fields(606, 12):
            for start in range(field.size):
                row = [chance.choice(RANGES[:63]) for _ in range(chance.randint(0, 5))]
                there = widest(lambda address: any(address.startswith(part) for part in row)
                               and fate_by_words(field, start, address)[0] != "here")
                self.assertEqual(holes(field, start, row), [part for part, flag in there if flag])

    def test_wrong_ranges(self):
        wrong = [None, "", "01", {"0"}, {"0": 1}, iter(["0"]), 1, TO_ONE]
        wrong += [thing for thing in helper.wrong_things() if not isinstance(thing, (list, tuple))]
        wrong += [row for part in wrong_ranges() for row in ([part], ("0", part))]
        for thing in wrong:
            with self.assertRaises(BadRanges):
                holes(PAIR, 0, thing)


if __name__ == "__main__":
    unittest.main()
