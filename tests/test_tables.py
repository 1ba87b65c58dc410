import itertools
import random
import unittest

from tests import helper
from wishreels.errors import BadAddress, BadRanges, BadTable
from wishreels.tables import Table, joined, parts, table_parting

ADDRESSES = ["".join(signs) for signs in itertools.product("01", repeat=10)]
RANGES = ["".join(signs) for length in range(11) for signs in itertools.product("01", repeat=length)]
NEXTS = ["here", "drop"] + list(range(8))
SOME = Table([("", 1), ("01", "here")])


def onward_by_words(entries, address):
    having = [(len(part), onto) for part, onto in entries if address.startswith(part)]
    return max(having, key=lambda one: one[0])[1] if having else "drop"


def widest(worth):
    """The ranges all addresses of which have one worth, and those of no shorter beginning, with it."""
    whole = {address: [worth(address)] for address in ADDRESSES}
    for part in sorted(RANGES, key=len, reverse=True)[len(ADDRESSES):]:
        low, high = whole[part + "0"], whole[part + "1"]
        whole[part] = low if len(low) == 1 and low == high else low + high
    return sorted((part, whole[part][0]) for part in RANGES
                  if len(whole[part]) == 1 and (part == "" or len(whole[part[:-1]]) > 1))


def some_tables(seed, many, nexts=NEXTS):
    """Tables of any kind, the same ones in each run."""
    chance = random.Random(seed)
    found = [Table([]), SOME, Table([("", "here")])]
    while len(found) < many:
        longest = chance.choice([2, 3, 5, 10])
        names = [part for part in RANGES if len(part) <= longest]
        few = chance.sample(names, min(len(names), chance.randint(1, 24)))
        found.append(Table([(part, chance.choice(nexts)) for part in few]))
    return found


def wrong_ranges():
    wrong = [0, None, "2", "a", "01a", " ", "0 ", "00000000000", "0\n", "\u0660", b"01", ["0"], ("0",), True, {"0"}]
    return wrong + [thing for thing in helper.wrong_things() if thing not in ("", "1")]


class MakingTest(unittest.TestCase):
    def test_entries_are_ascending(self):
        self.assertEqual(SOME.entries, (("", 1), ("01", "here")))
        table = Table((("1", 0), ("", "drop"), ("01", 7), ("0", "here"), ("0000000000", 3)))
        self.assertEqual(table.entries, (("", "drop"), ("0", "here"), ("0000000000", 3), ("01", 7), ("1", 0)))
        self.assertEqual(Table([]).entries, ())
        self.assertEqual(Table(()).entries, ())

    def test_right_items(self):
        for onto in NEXTS:
            for part in ["", "0", "1", "01", "1111111111"]:
                self.assertEqual(Table([(part, onto)]).entries, ((part, onto),))

    def test_at_most_24(self):
        entries = [(part, 0) for part in RANGES[:25]]
        self.assertEqual(len(Table(entries[:24]).entries), 24)
        for row in (entries, tuple(entries), entries + [None], [None] * 25):
            with self.assertRaises(BadTable) as caught:
                Table(row)
            self.assertEqual(caught.exception.index, -1)

    def test_no_rows(self):
        wrong = [None, "", "01", {}, {("0", 1): 1}, set(), iter([]), 0, SOME, Table]
        for thing in wrong + [thing for thing in helper.wrong_things() if not isinstance(thing, (list, tuple))]:
            with self.assertRaises(BadTable) as caught:
                Table(thing)
            self.assertEqual(caught.exception.index, -1)

    def test_wrong_items(self):
        wrong = [("0",), ("0", 1, 1), ["0", 1], (), "01", ("0", 8), ("0", -1), ("0", True), ("0", None), ("0", "Here"),
                 ("0", "round"), ("0", ""), ("0", "1"), ("0", (1,)), ("0", 10 ** 29), ("0", b"here"), (1, "0")]
        wrong += [(part, 1) for part in wrong_ranges()] + [("0", thing) for thing in helper.wrong_things()]
        wrong += helper.wrong_things() + list(helper.spoiled(("0", 1)))
        for thing in wrong:
            if thing not in (("", 1), ("0", 1)) or thing[1] is True:
                for place, row in enumerate([[thing, None], [("11", 2), thing, 5], (("11", 2), ("", 2), thing)]):
                    with self.assertRaises(BadTable) as caught:
                        Table(row)
                    self.assertEqual(caught.exception.index, place)

    def test_a_range_that_stands_ahead(self):
        for row, index in [
                ([("0", 1), ("0", 1)], 1), ([("", 1), ("1", 2), ("", 3), ("1", 4)], 2),
                ([("01", "here"), ("0", 1), ("1", 1), ("01", "drop"), None], 3)]:
            with self.assertRaises(BadTable) as caught:
                Table(row)
            self.assertEqual(caught.exception.index, index)

    def test_equal_just_if_the_entries_are(self):
        self.assertTrue(SOME == Table((("01", "here"), ("", 1))))
        self.assertFalse(SOME != Table((("01", "here"), ("", 1))))
        for row in [[], [("", 1)], [("", 1), ("01", "drop")], [("", 1), ("00", "here")],
                    [("", 1), ("01", "here"), ("1", 1)]]:
            self.assertFalse(SOME == Table(row))
        for thing in helper.wrong_things() + [SOME.entries]:
            self.assertFalse(SOME == thing)

    def test_they_keep_copies(self):
        entries = [("0", 1)]
        table = Table(entries)
        entries.append(("1", 2))
        self.assertEqual(table, Table([("0", 1)]))
        self.assertEqual(table.onward("1111111111"), "drop")


class OnwardTest(unittest.TestCase):
    def test_the_longest_range_decides(self):
        table = Table([("", 1), ("0", 2), ("00", "drop"), ("0000000000", "here"), ("11", 0)])
        for address, onto in [
                ("0000000000", "here"), ("0000000001", "drop"), ("0011111111", "drop"), ("0100000000", 2),
                ("1000000000", 1), ("1011111111", 1), ("1100000000", 0), ("1111111111", 0)]:
            self.assertEqual(table.onward(address), onto)

    def test_no_range(self):
        self.assertEqual(Table([]).onward("0101010101"), "drop")
        self.assertEqual(Table([("1", 1)]).onward("0101010101"), "drop")

    def test_by_the_words(self):
        for table in some_tables(501, 40):
            for address in ADDRESSES:
                self.assertEqual(table.onward(address), onward_by_words(table.entries, address))

    def test_wrong_addresses(self):
        wrong = [None, "", "0", "000000000", "00000000000", "000000000a", "000000000\n", 0, b"0000000000",
                 ["0"] * 10, ("0",) * 10, " 000000000", "\u0660" * 10, 10 ** 9]
        for thing in wrong + helper.wrong_things():
            with self.assertRaises(BadAddress):
                SOME.onward(thing)


class PartsTest(unittest.TestCase):
    def test_some(self):
        self.assertEqual(parts(SOME), [("00", 1), ("01", "here"), ("1", 1)])
        self.assertEqual(parts(Table([])), [("", "drop")])
        self.assertEqual(parts(Table([("0", 1), ("1", 1)])), [("", 1)])
        self.assertEqual(parts(Table([("0", 1), ("1", "drop"), ("01", 1)])), [("0", 1), ("1", "drop")])
        one = parts(Table([("0000000000", 5)]))
        self.assertEqual(one, [("0000000000", 5)] + [("0" * at + "1", "drop") for at in range(9, -1, -1)])

    def test_by_the_words(self):
        for table in some_tables(502, 40) + some_tables(503, 40, ["drop", 0]):
            self.assertEqual(parts(table), widest(table.onward))


class PartingTest(unittest.TestCase):
    def test_some(self):
        self.assertIsNone(table_parting(SOME, Table([("", 1), ("01", "here")])))
        self.assertIsNone(table_parting(SOME, Table([("1", 1), ("01", "here"), ("00", 1)])))
        self.assertIsNone(table_parting(Table([]), Table([("", "drop")])))
        self.assertEqual(table_parting(SOME, Table([("", 1)])), "0100000000")
        self.assertEqual(table_parting(Table([]), Table([("1111111111", 0)])), "1111111111")
        self.assertEqual(table_parting(Table([]), Table([("", 0)])), "0000000000")

    def test_by_the_words(self):
        tables = some_tables(504, 9, ["here", 1]) + some_tables(505, 9)
        for one, other in itertools.product(tables, repeat=2):
            unlike = [a for a in ADDRESSES if onward_by_words(one.entries, a) != onward_by_words(other.entries, a)]
            self.assertEqual(table_parting(one, other), min(unlike, default=None))


class JoinedTest(unittest.TestCase):
    def test_some(self):
        for row, told in [
                ([], []), ([""], [""]), (["0", "1"], [""]), (("00", "01", "010"), ["0"]), (["1", "0", "1"], [""]),
                (["11", "10", "001", "000"], ["00", "1"]), (["0101010101"], ["0101010101"]), (["", "0"], [""]),
                (["0", "0"], ["0"]), (["01", "10"], ["01", "10"]), (["10", "01"], ["01", "10"])]:
            self.assertEqual(joined(row), told)

    def test_by_the_words(self):
        chance = random.Random(506)
        for _ in range(60):
            names = [part for part in RANGES if len(part) <= chance.choice([2, 3, 4, 10])]
            row = [chance.choice(names) for _ in range(chance.randint(0, 12))]
            there = widest(lambda address: any(address.startswith(part) for part in row))
            self.assertEqual(joined(row), [part for part, flag in there if flag])

    def test_all_addresses(self):
        self.assertEqual(joined(ADDRESSES), [""])
        self.assertEqual(joined(ADDRESSES[1:]), ["0" * at + "1" for at in range(9, -1, -1)])

    def test_wrong_ranges(self):
        wrong = [None, "", "01", {}, {"0"}, {"0": 1}, iter(["0"]), 1, SOME]
        wrong += [thing for thing in helper.wrong_things() if not isinstance(thing, (list, tuple))]
        wrong += [row for part in wrong_ranges() for row in ([part], ["0", part], (part, "0"))]
        for thing in wrong:
            with self.assertRaises(BadRanges):
                joined(thing)


if __name__ == "__main__":
    unittest.main()
