"""Point [9]: outlivers.ties."""

import random
import unittest

from outlivers.ties import near, shuts
from tests.helper import answered, are_tied, asked, soon, tie_cases

GREAT = 10 ** 5000
ROW = [(0, 1), (1, 2), (2, 3)]


def near_ones(ties, size, some):
    """The members near a list, found pair by pair."""
    return [member for member in range(size) if [one for one in some if are_tied(ties, member, one)]]


def lists_of(size):
    """All growing lists of so many members."""
    return [[member for member in range(size) if bits >> member & 1] for bits in range(1 << size)]


class TestNear(unittest.TestCase):
    def test_no_list(self):
        for ties in (None, [], ROW):
            self.assertEqual(asked(self, near, ties, 4, []), [])
        self.assertEqual(asked(self, near, None, 0, []), [])
        self.assertEqual(asked(self, near, [], 0, []), [])

    def test_no_ties(self):
        for some in lists_of(4):
            self.assertEqual(asked(self, near, [], 4, some), [])

    def test_written_ones(self):
        for some, looked_for in (
            ([0], [1]), ([1], [0, 2]), ([3], [2]), ([0, 2], [1, 3]), ([0, 1], [0, 1, 2]), ([0, 3], [1, 2]),
            ([0, 1, 2, 3], [0, 1, 2, 3]),
        ):
            with self.subTest(some):
                self.assertEqual(asked(self, near, ROW, 4, some), looked_for)

    def test_every_two_tied(self):
        self.assertEqual(asked(self, near, None, 1, [0]), [])
        self.assertEqual(asked(self, near, None, 4, [2]), [0, 1, 3])
        self.assertEqual(asked(self, near, None, 4, [2, 2]), [0, 1, 3])
        self.assertEqual(asked(self, near, None, 4, [3, 1]), [0, 1, 2, 3])
        self.assertEqual(asked(self, near, None, 4, [0, 1, 2, 3]), [0, 1, 2, 3])

    def test_one_near_though_it_stands_in_the_list(self):
        self.assertEqual(asked(self, near, [(0, 1)], 3, [0, 1]), [0, 1])
        self.assertEqual(asked(self, near, [(0, 1)], 3, [0]), [1])
        self.assertEqual(asked(self, near, [(0, 1)], 3, [0, 2]), [1])

    def test_pairs_twice_and_either_way_round(self):
        for ties in ([(0, 2)], [(2, 0)], [(0, 2), (2, 0)], [(2, 0), (2, 0), (0, 2)]):
            self.assertEqual(asked(self, near, ties, 3, [0]), [2])
            self.assertEqual(asked(self, near, ties, 3, [2]), [0])
            self.assertEqual(asked(self, near, ties, 3, [1]), [])

    def test_any_order_and_one_twice(self):
        for some in ([2, 0], [0, 2, 0], [2, 2, 0, 0]):
            self.assertEqual(asked(self, near, ROW, 4, some), [1, 3])

    def test_up_to_twelve_members(self):
        chance = random.Random(91)
        for weights, ties in tie_cases(92, range(1, 13), (1,)):
            size = len(weights)
            for many in (0, 1, 2, size, 2 * size):
                some = [chance.randrange(size) for place in range(many)]
                with self.subTest(ties=ties, some=some):
                    self.assertEqual(asked(self, near, ties, size, some), near_ones(ties, size, some))
            self.assertEqual(asked(self, near, ties, size, list(range(size))), near_ones(ties, size, range(size)))

    def test_the_same_pairs_very_often(self):
        with soon():
            self.assertEqual(near(ROW * 30000, 12, list(range(12))), [0, 1, 2, 3])


class TestShuts(unittest.TestCase):
    def test_no_list(self):
        for ties in (None, [], ROW):
            self.assertIs(answered(self, shuts, [1, 2, 3, 4], ties, []), False)
        self.assertIs(answered(self, shuts, [], None, []), False)

    def test_more_as_much_and_less(self):
        for weight, looked_for in ((4, False), (5, False), (6, True)):
            self.assertIs(answered(self, shuts, [weight, 2, 3], None, [0]), looked_for)
            self.assertIs(answered(self, shuts, [2, weight, 3, 9], [(0, 1), (2, 1)], [1]), looked_for)
            self.assertIs(answered(self, shuts, [2, 5, weight - 2], [(1, 0), (1, 2)], [0, 2]), looked_for)

    def test_one_alone(self):
        for ties in (None, []):
            self.assertIs(answered(self, shuts, [0], ties, [0]), False)
            self.assertIs(answered(self, shuts, [1], ties, [0]), True)

    def test_nobody_near(self):
        self.assertIs(answered(self, shuts, [0, 0, 5], [], [0, 1]), False)
        self.assertIs(answered(self, shuts, [0, 1, 5], [], [0, 1]), True)

    def test_those_in_the_list_count_where_they_are_near(self):
        self.assertIs(answered(self, shuts, [9, 1, 1], None, [0, 1]), False)
        self.assertIs(answered(self, shuts, [9, 1, 1], [(0, 1)], [0, 1]), False)
        self.assertIs(answered(self, shuts, [9, 1, 1], [(0, 1)], [0, 2]), True)
        self.assertIs(answered(self, shuts, [9, 1, 1], [(0, 1)], [0, 1, 2]), True)

    def test_very_great_weights(self):
        for ties in (None, [(2, 0), (0, 1)]):
            self.assertIs(answered(self, shuts, [2 * GREAT, GREAT, GREAT], ties, [0]), False)
            self.assertIs(answered(self, shuts, [2 * GREAT + 1, GREAT, GREAT], ties, [0]), True)

    def test_all_lists(self):
        for weights, ties in tie_cases(93, range(6), (0, 1, 4, 10 ** 12)):
            for some in lists_of(len(weights)):
                around = near_ones(ties, len(weights), some)
                looked_for = sum(weights[one] for one in some) > sum(weights[one] for one in around)
                with self.subTest(weights=weights, ties=ties, some=some):
                    self.assertIs(answered(self, shuts, weights, ties, some), looked_for)


if __name__ == "__main__":
    unittest.main()
