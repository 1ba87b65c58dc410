import itertools
import unittest

from tests import helper
from tests.test_tables import ADDRESSES, RANGES, SOME, some_tables
from wishreels.fewest import fewest, is_fewest
from wishreels.tables import Table, parts, table_parting


def small_rows(longest, nexts, most):
    """All rows of entries with short ranges, these nexts and not too many entries; the shorter rows first."""
    names = [part for part in RANGES if len(part) <= longest]
    for many in range(most + 1):
        for few in itertools.combinations(names, many):
            for onto in itertools.product(nexts, repeat=many):
                yield dict(zip(few, onto))


def least_tables(longest, nexts, most):
    """For each row of nexts of the short ranges a table that makes it with the least number of entries."""
    heads = ["".join(signs) for signs in itertools.product("01", repeat=longest)]
    found = {}
    for row in small_rows(longest, nexts, most):
        told = []
        for head in heads:
            told.append(next((row[head[:at]] for at in range(longest, -1, -1) if head[:at] in row), "drop"))
        found.setdefault(tuple(told), row)
    return [Table(list(row.items())) for row in found.values()]


def fewest_number(table):
    """The least number of entries, by the sets of the nexts that are best for each range."""
    there = dict(parts(table))

    def best(part):
        if part in there:
            return {there[part]}
        low, high = best(part + "0"), best(part + "1")
        return low & high or low | high

    def count(part, onto):
        good = best(part)
        if part in there:
            return int(onto not in good)
        news = onto if onto in good else sorted(good, key=str)[0]
        return int(onto not in good) + count(part + "0", news) + count(part + "1", news)

    return count("", "drop")


class FewestTest(unittest.TestCase):
    def look(self, table, least):
        found = fewest(table)
        self.assertIsInstance(found, Table)
        self.assertIsNone(table_parting(table, found))
        self.assertEqual(len(found.entries), least)
        self.assertTrue(is_fewest(table, found))

    def test_some(self):
        for entries, least in [
                ([], 0), ([("", "drop")], 0), ([("", 1)], 1), ([("0", 1), ("1", 1)], 1), ([("0", 1), ("1", 2)], 2),
                ([("", 1), ("0", 1), ("01", 1)], 1), ([("", 1), ("0", "drop")], 1), ([("1", "drop"), ("11", "drop")], 0),
                ([("00", 1), ("01", 2), ("10", 1), ("11", 2)], 3), ([("00", 1), ("01", 1), ("1", 2)], 2),
                ([("0", "drop"), ("1", 1), ("10", "drop"), ("11", 3)], 1), ([("00", 1), ("01", 1), ("10", 1)], 2)]:
            self.look(Table(entries), least)

    def test_all_small_ones_with_three_nexts(self):
        found = least_tables(2, ["here", "drop", 0], 7)
        self.assertEqual(len(found), 81)
        for table in found:
            self.look(table, len(table.entries))

    def test_all_small_ones_with_two_nexts(self):
        found = least_tables(3, ["here", "drop"], 4)
        self.assertEqual(len(found), 256)
        for table in found[::3]:
            self.look(table, len(table.entries))

    def test_any_ones(self):
        for table in some_tables(511, 60) + some_tables(512, 60, ["here", "drop", 1]):
            least = fewest_number(table)
            self.assertLessEqual(least, len(table.entries))
            self.look(table, least)

    def test_long_ones(self):
        self.look(Table([(address, 1) for address in ADDRESSES[:24]]), 2)
        self.look(Table([(address, 1) for address in ADDRESSES[::2][:24]]), 24)
        self.look(Table([("", 0)] + [("0" * at, at % 3) for at in range(1, 11)]), 8)
        self.look(Table([(part, len(part) % 2) for part in RANGES[:15]]), 1)


class IsFewestTest(unittest.TestCase):
    def test_tables(self):
        self.assertIs(is_fewest(SOME, SOME), True)
        self.assertIs(is_fewest(SOME, Table([("", 1), ("01", "drop")])), False)
        self.assertIs(is_fewest(SOME, Table([("", 1), ("01", "here"), ("00", 1)])), False)
        self.assertIs(is_fewest(Table([("", 1), ("01", "here"), ("00", 1)]), SOME), True)
        self.assertIs(is_fewest(SOME, Table([("", 1)])), False)
        self.assertIs(is_fewest(Table([]), Table([("", "drop")])), False)
        self.assertIs(is_fewest(Table([("", "drop")]), Table([])), True)
        three = Table([("0", 1), ("10", 2), ("11", 3)])
        for entries in [[("", 1), ("1", 2), ("11", 3)], [("", 2), ("0", 1), ("11", 3)], [("1", 2), ("0", 1), ("11", 3)]]:
            self.assertIs(is_fewest(three, Table(entries)), True)

    def test_by_looking_at_all_small_ones(self):
        things = [Table(list(row.items())) for row in small_rows(2, ["here", "drop"], 2)]
        right = 0
        for table in least_tables(2, ["here", "drop"], 7)[::2]:
            for thing in things:
                told = table_parting(table, thing) is None and len(thing.entries) == len(table.entries)
                self.assertIs(is_fewest(table, thing), told)
                right += told
        self.assertGreater(right, 5)

    def test_any_object(self):
        for thing in helper.wrong_things() + [SOME.entries, list(SOME.entries), Table, fewest]:
            self.assertIs(is_fewest(SOME, thing), False)
            self.assertIs(is_fewest(Table([("0", 3)]), thing), False)


if __name__ == "__main__":
    unittest.main()
