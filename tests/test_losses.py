import itertools
import random
import unittest

from wishreels.losses import least_loss


def some_cases(seed, many):
    """Ways with ends, as bits, and groups of them."""
    chance = random.Random(seed)
    for _ in range(many):
        size = chance.randint(0, 9)
        rests = [chance.choice([None] + list(range(number))) for number in range(size)]
        below = []
        for number, rest in enumerate(rests):
            below.append(1 << number | (0 if rest is None else below[rest]))
        above = [sum(1 << other for other in range(size) if below[other] >> number & 1) for number in range(size)]
        groups = [chance.randint(1, (1 << size) - 1) & chance.randint(0, (1 << size) - 1) for _ in range(6) if size]
        yield [group for group in groups if group], above, below


class LossesTest(unittest.TestCase):
    def test_as_few_as_can_be(self):
        seen = set()
        for groups, above, below in some_cases(171, 600):
            told = least_loss(groups, above, below)
            size = len(above)
            right = []
            for many in range(size + 1):
                for lost in itertools.combinations(range(size), many):
                    bits = sum(1 << number for number in lost)
                    if all(above[number] & ~bits == 0 for number in lost) and all(group & bits for group in groups):
                        right.append(bits)
                if right:
                    break
            self.assertIn(told, right)
            seen.add(bin(told).count("1"))
        self.assertGreater(len(seen), 5)

    def test_nothing_to_lose(self):
        self.assertEqual(least_loss([], [], []), 0)
        self.assertEqual(least_loss([], [1, 2], [1, 2]), 0)


if __name__ == "__main__":
    unittest.main()
