"""Point [8]: outlivers.weights."""

import random
import unittest

from outlivers.weights import overweight, weights
from tests.helper import asked, soon

GREAT = 10 ** 5000


class TestWeights(unittest.TestCase):
    def test_no_members(self):
        self.assertEqual(asked(self, weights, [], []), [])

    def test_coins_times_tickets(self):
        self.assertEqual(asked(self, weights, [7], [3]), [21])
        self.assertEqual(asked(self, weights, [7, 0, 1], [3, 1000, 1000]), [21, 0, 1000])
        self.assertEqual(asked(self, weights, [0, 0], [1, 1]), [0, 0])

    def test_very_great_coins(self):
        self.assertTrue(asked(self, weights, [GREAT, GREAT + 1], [1, 1000]) == [GREAT, 1000 * GREAT + 1000])

    def test_up_to_twelve_members(self):
        chance = random.Random(81)
        for size in range(13):
            coins = [chance.randint(0, 10 ** 9) for member in range(size)]
            tickets = [chance.randint(1, 1000) for member in range(size)]
            told = asked(self, weights, coins, tickets)
            self.assertEqual(len(told), size)
            for member in range(size):
                self.assertEqual(told[member], coins[member] * tickets[member])


class TestOverweight(unittest.TestCase):
    def test_no_members(self):
        self.assertIsNone(asked(self, overweight, []))

    def test_one_alone(self):
        for weight in (1, 2, 10 ** 9, GREAT):
            self.assertEqual(asked(self, overweight, [weight]), 0)
        self.assertIsNone(asked(self, overweight, [0]))

    def test_nobody_weighs_anything(self):
        for size in range(13):
            self.assertIsNone(asked(self, overweight, [0] * size))

    def test_one_with_weight_among_those_without(self):
        for size in range(1, 13):
            for member in range(size):
                row = [0] * size
                row[member] = 1
                self.assertEqual(asked(self, overweight, row), member)

    def test_two_members(self):
        self.assertIsNone(asked(self, overweight, [5, 5]))
        self.assertEqual(asked(self, overweight, [6, 5]), 0)
        self.assertEqual(asked(self, overweight, [5, 6]), 1)

    def test_as_much_one_more_and_one_less(self):
        chance = random.Random(82)
        for size in range(2, 13):
            for most in (0, 1, 50, 10 ** 9, GREAT):
                for member in range(size):
                    row = [chance.randint(0, most) for place in range(size)]
                    others = sum(row) - row[member]
                    with self.subTest(size=size, member=member), soon():
                        row[member] = others
                        self.assertIsNone(asked(self, overweight, row))
                        row[member] = others + 1
                        self.assertEqual(asked(self, overweight, row), member)

    def test_one_less_where_no_other_overweighs(self):
        for row in ([2, 1, 2], [9, 5, 5], [GREAT, GREAT // 2, GREAT // 2 + 1], [11] + [1] * 11 + [1]):
            self.assertEqual(row[0] + 1, sum(row[1:]))
            for turn in range(len(row)):
                self.assertIsNone(asked(self, overweight, row[turn:] + row[:turn]))

    def test_the_heaviest_alone_is_not_enough(self):
        self.assertIsNone(asked(self, overweight, [10, 6, 5]))
        self.assertIsNone(asked(self, overweight, [1, 1, 1]))


if __name__ == "__main__":
    unittest.main()
