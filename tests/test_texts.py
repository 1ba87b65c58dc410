import random
import re
import unittest

from tests import helper
from tests.test_policies import some_policies
from wishreels.errors import BadText, BadWishes
from wishreels.policies import Policy, Rule
from wishreels.texts import policy_text, read_policy, read_wishes, wishes_text
from wishreels.wishes import Wishes

SIGNS = "0123456789-: \n.*+/anyoerfus|,\t\r\u0661"


def no_strings():
    return [thing for thing in helper.wrong_things() if not isinstance(thing, str)]


def altered(chance, text):
    """A text with one sign put in, taken out or put in the place of another one."""
    place = chance.randrange(len(text) + 1)
    rest = text[place + chance.randint(0, 1):]
    return text[:place] + chance.choice(["", chance.choice(SIGNS), chance.choice(SIGNS[:13])]) + rest


def wishes_of_text(text):
    """The lists of wishes with this text, or the number of the first wrong row, by the words of the document."""
    rows = text.split("\n")
    lists = [()]
    for number, row in enumerate(rows[:-1], 1):
        if number == 8 or not row.startswith(f"{number}:"):
            return number
        rest, ways = row[2:], []
        while rest:
            pieces = rest[1:].split(" ")[0].split("-")
            if rest[0] != " " or not all(len(piece) == 1 and piece in "01234567" for piece in pieces):
                return number
            way = tuple(int(piece) for piece in pieces)
            right = 2 <= len(way) == len(set(way)) and way[0] == number and way[-1] == 0
            if not right or way in ways or len(ways) == 6:
                return number
            ways.append(way)
            rest = rest[1 + 2 * len(way) - 1:]
        lists.append(tuple(ways))
    return tuple(lists) if len(rows) > 1 and rows[-1] == "" else len(rows)


ITEM = "(?:[0-7]|one|any)"
ROW = re.compile(
    rf"(\.|{ITEM}(?:-{ITEM}){{0,7}}) (\*|[a-z]{{1,8}}) (?:refuse|([0-9])((?: \+[a-z]{{1,8}})*)((?: /[a-z]{{1,8}})*))")


def policy_of_text(text):
    """The policy with this text, or the number of the first wrong row, by the words of the document."""
    rows = text.split("\n")
    rules = []
    for number, row in enumerate(rows[:-1], 1):
        match = ROW.fullmatch(row)
        if number == 9 or not match:
            return number
        items, tag, digit, *names = match.groups()
        pattern = () if items == "." else tuple(int(one) if one in "01234567" else one for one in items.split("-"))
        deed = None
        if digit:
            on, off = [tuple(name[1:] for name in row.split()) for row in names]
            if list(on) != sorted(set(on)) or list(off) != sorted(set(off)) or set(on) & set(off):
                return number
            if max(len(on), len(off)) > 3:
                return number
            deed = (int(digit), on, off)
        rules.append(Rule(pattern, None if tag == "*" else tag, deed))
    return Policy(tuple(rules)) if rows[-1] == "" else len(rows)


class WishesTextTest(unittest.TestCase):
    def test_some(self):
        self.assertEqual(wishes_text(helper.SWAP), "1: 1-2-0 1-0\n2: 2-1-0 2-0\n")
        self.assertEqual(wishes_text(helper.BARE), "1:\n")
        self.assertEqual(wishes_text(helper.APART), "1: 1-0\n2: 2-0\n3:\n")
        self.assertEqual(wishes_text(helper.LONG).split("\n")[6], "7: 7-6-5-4-3-2-1-0")

    def test_there_and_back(self):
        for wishes in helper.some_wishes(701, 100, 2, 8, 6) + [helper.BARE, helper.LONG]:
            text = wishes_text(wishes)
            self.assertEqual(text.count("\n"), wishes.size - 1)
            self.assertEqual(read_wishes(text), wishes)


class ReadWishesTest(unittest.TestCase):
    def wrong(self, text, line):
        with self.assertRaises(BadText) as caught:
            read_wishes(text)
        self.assertEqual(caught.exception.line, line, text)

    def test_no_string(self):
        for thing in no_strings() + [b"1: 1-0\n", ["1: 1-0\n"]]:
            self.wrong(thing, 0)

    def test_wrong_rows(self):
        for row in ["", "1", "1 :", " 1:", "1: ", "1:  1-0", "1: 1-0 ", "1:1-0", "2:", "0:", "2: 2-0", "1: 1", "1: 1-",
                    "1: -0", "1: 1--0", "1: 1-0-", "1: 2-0", "1: 1-0-2", "1: 0", "1: 1-1-0", "1: 1-0-0", "1: 1-8-0",
                    "1: 1-9-0", "1: 1-10-0", "1: 01-0", "1: 1-00", "1: 1_0", "1: 1-0 1-0", "1: 1-2-0 1-0 1-2-0",
                    "1: a-0", "1: 1-0\r", "1:\t1-0", "1: 1-0,1-2-0", "1: 1-+2-0", "1: 1-\u0662-0", "\u0661:",
                    "1: 1-0 1-2-0 1-3-0 1-4-0 1-5-0 1-6-0 1-7-0", "1: 1-2-3-4-5-6-7-8-0", "1: 1 - 0", "1: 1-0|", "1::",
                    "one:", "x", "1: (1, 0)", "1:\x0b", "1: 1-0\u2028"]:
            self.wrong(row + "\n", 1)
            self.wrong(row + "\nx\n", 1)
            self.wrong(row + "\nx", 1)
            if not row.startswith("2:"):
                self.wrong("1: 1-2-0\n" + row + "\n2:\n", 2)

    def test_the_row_of_another_router(self):
        self.wrong("1: 1-0\n1: 1-0\n", 2)
        self.wrong("1: 1-0\n3: 3-0\n", 2)
        self.wrong("1:\n2:\n3:\n4:\n5:\n6:\n8:\n", 7)

    def test_the_eighth(self):
        rows = [f"{router}:\n" for router in range(1, 10)]
        self.assertEqual(read_wishes("".join(rows[:7])), Wishes(((),) * 8))
        self.wrong("".join(rows[:8]), 8)
        self.wrong("".join(rows[:9]), 8)
        self.wrong("".join(rows[:8]) + "x", 8)
        self.wrong("".join(rows[:7]) + "8:", 8)

    def test_no_rows_or_something_behind_the_last_one(self):
        self.wrong("", 1)
        self.wrong("1:", 1)
        self.wrong("x", 1)
        self.wrong("1:\n2:", 2)
        self.wrong("1: 1-0\n ", 2)
        self.wrong("1:\n2:\n3:\nx", 4)

    def test_wishes_that_are_none(self):
        for text, router in [
                ("1: 1-2-0\n", 1), ("1: 1-2-0\n2:\n", 1), ("1: 1-0\n2: 2-1-0\n3: 3-2-0\n", 3), ("1:\n2: 2-7-0\n", 2),
                ("1: 1-2-0\n2: 2-3-0\n", 2), ("1: 1-7-0 1-0\n2: 2-1-0\n", 1)]:
            with self.assertRaises(BadWishes) as caught:
                read_wishes(text)
            self.assertEqual(caught.exception.router, router)

    def test_altered_texts_by_the_words(self):
        chance = random.Random(702)
        seen = {}
        for wishes in helper.some_wishes(703, 60, 2, 8, 6):
            for _ in range(40):
                text = altered(chance, wishes_text(wishes))
                if chance.random() < 0.3:
                    text = altered(chance, text)
                told = wishes_of_text(text)
                try:
                    found = helper.lists_of(read_wishes(text))
                except BadText as error:
                    found = error.line
                except BadWishes:
                    with self.assertRaises(BadWishes):
                        Wishes(told)
                    found = told
                self.assertEqual(found, told, text)
                seen[type(told)] = seen.get(type(told), 0) + 1
        self.assertGreater(min(seen.values()), 100)


class PolicyTextTest(unittest.TestCase):
    def test_some(self):
        policy = Policy((
            Rule((), None, None), Rule((2, "any", 0), "near", (3, ("a", "c"), ("b", "d"))),
            Rule(("one",), None, (0, (), ("far",))), Rule(("any",) * 8, "z", (9, ("x",), ()))))
        self.assertEqual(policy_text(policy), (
            ". * refuse\n2-any-0 near 3 +a +c /b /d\none * 0 /far\nany-any-any-any-any-any-any-any z 9 +x\n"))
        self.assertEqual(policy_text(Policy(())), "")

    def test_there_and_back(self):
        for policy in some_policies(711, 200, 8, 8) + [Policy(()), Policy((Rule((), "one", None),) * 8)]:
            text = policy_text(policy)
            self.assertEqual(text.count("\n"), len(policy.rules))
            self.assertEqual(read_policy(text), policy)


class ReadPolicyTest(unittest.TestCase):
    def wrong(self, text, line):
        with self.assertRaises(BadText) as caught:
            read_policy(text)
        self.assertEqual(caught.exception.line, line, text)

    def test_no_string(self):
        for thing in no_strings() + [b". * refuse\n", [". * refuse\n"]]:
            self.wrong(thing, 0)

    def test_wrong_rows(self):
        for row in ["", ".", ". *", ". * ", "* refuse", ". refuse", ". * refuse ", " . * refuse", ".  * refuse",
                    ".\t*\trefuse", ". * Refuse", ". * refuse +a", ". * 10", ". * -1", ". * a", ". * 3 ", ". * 3 a",
                    ". * 3 +", ". * 3 +A", ". * 3 /b +a", ". * 3 +b +a", ". * 3 +a +a", ". * 3 +a /a", ". * +a", ". * 3 + a",
                    ". * 3 +a +b +c +d", ". * 3 /a /b /c /d", ". * 3 +abcdefghi", ". * 3 +a  /b", ". * 3 -a", ". A 3",
                    ". abcdefghi 3", ". a1 3", ". ** 3", ". . 3", ".. * 3", "- * 3", "1- * 3", "-1 * 3", "1--2 * 3",
                    "8 * 3", "9 * 3", "10 * 3", "01 * 3", "two * 3", "Any * 3", "any-.-1 * 3", ".-1 * 3", "any_1 * 3",
                    "0-0-0-0-0-0-0-0-0 * 3", "\u0661 * 3", ". * \u0663", ". * 3\r", ". * 03", "None * 3", "x", "+",
                    ". * 3 ++a", ". * 3 +/a", ". * refuse\x0b", ". *3", ". * 3 +a,+b", ". * None"]:
            self.wrong(row + "\n", 1)
            self.wrong(row + "\nx", 1)
            self.wrong(". * 3\n" + row + "\n. * refuse\n", 2)

    def test_the_ninth(self):
        self.assertEqual(len(read_policy(". * 3\n" * 8).rules), 8)
        self.wrong(". * 3\n" * 9, 9)
        self.wrong(". * 3\n" * 10, 9)
        self.wrong(". * 3\n" * 8 + "x", 9)
        self.wrong(". * 3\n" * 8 + "x\n", 9)

    def test_no_rows_or_something_behind_the_last_one(self):
        self.assertEqual(read_policy(""), Policy(()))
        self.wrong(". * 3", 1)
        self.wrong(" ", 1)
        self.wrong(". * 3\n. * refuse", 2)
        self.wrong(". * 3\n ", 2)

    def test_altered_texts_by_the_words(self):
        chance = random.Random(712)
        seen = {}
        for policy in some_policies(713, 100, 3, 4) + some_policies(714, 20, 8, 8):
            for _ in range(30):
                text = altered(chance, policy_text(policy))
                told = policy_of_text(text)
                try:
                    found = read_policy(text)
                except BadText as error:
                    found = error.line
                else:
                    self.assertEqual(policy_text(found), text)
                self.assertEqual(found, told, text)
                seen[type(told)] = seen.get(type(told), 0) + 1
        self.assertGreater(min(seen.values()), 100)


if __name__ == "__main__":
    unittest.main()
