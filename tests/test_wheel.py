"""Points [10] and [13]: outlivers.wheel."""

import itertools
import random
import unittest

from outlivers.wheel import arcs, ring, wheel
from tests.helper import asked, soon

GREAT = 10 ** 5000


def walked(weights):
    """The ring's table, counted step by step round the ring."""
    owners = [member for member, weight in enumerate(weights) for step in range(2 * weight)]
    table = [[0 for other in weights] for member in weights]
    for step, owner in enumerate(owners):
        table[owner][owners[(step + len(owners) // 2) % len(owners)]] += 1
    return table


def small_rows():
    """All rows of up to four members with small weights."""
    for size in range(5):
        for row in itertools.product(range(5 if size < 4 else 4), repeat=size):
            yield list(row)


def drawn_rows(seed):
    """Rows of up to twelve members, some with one that weighs about as much as all others or far more."""
    chance = random.Random(seed)
    for size in range(13):
        for most in (1, 9, 10 ** 6, GREAT):
            row = [chance.choice((0, chance.randint(0, most), most)) for member in range(size)]
            yield row
            for member in range(size):
                others = sum(row) - row[member]
                for weight in (others - 1, others, others + 1, 3 * others + 5):
                    yield row[:member] + [max(weight, 0)] + row[member + 1:]


def heavy_one(weights):
    for member, weight in enumerate(weights):
        if 2 * weight > sum(weights):
            return member
    return None


class TestArcs(unittest.TestCase):
    def test_written_ones(self):
        self.assertEqual(asked(self, arcs, []), [])
        self.assertEqual(asked(self, arcs, [0]), [(0, 0)])
        self.assertEqual(asked(self, arcs, [3]), [(0, 6)])
        self.assertEqual(asked(self, arcs, [3, 0, 1, 0]), [(0, 6), (6, 6), (6, 8), (8, 8)])
        self.assertEqual(asked(self, arcs, [0, 2]), [(0, 0), (0, 4)])

    def test_one_behind_the_other(self):
        for row in drawn_rows(131):
            with soon():
                told = asked(self, arcs, row)
            self.assertEqual(len(told), len(row))
            end = 0
            for arc, weight in zip(told, row):
                self.assertIs(type(arc), tuple)
                self.assertEqual(len(arc), 2)
                self.assertTrue(arc[0] == end)
                end = arc[1]
                self.assertTrue(end - arc[0] == 2 * weight)


class TestRing(unittest.TestCase):
    def test_written_ones(self):
        self.assertEqual(asked(self, ring, []), [])
        self.assertEqual(asked(self, ring, [0]), [[0]])
        self.assertEqual(asked(self, ring, [3]), [[6]])
        self.assertEqual(asked(self, ring, [0, 0]), [[0, 0], [0, 0]])
        self.assertEqual(asked(self, ring, [2, 2]), [[0, 4], [4, 0]])
        self.assertEqual(asked(self, ring, [1, 1, 1]), [[0, 1, 1], [1, 0, 1], [1, 1, 0]])
        self.assertEqual(asked(self, ring, [3, 1]), [[4, 2], [2, 0]])
        self.assertEqual(asked(self, ring, [1, 3]), [[0, 2], [2, 4]])
        self.assertEqual(asked(self, ring, [2, 0, 3, 1]), [[0, 0, 4, 0], [0, 0, 0, 0], [4, 0, 0, 2], [0, 0, 2, 0]])

    def test_step_by_step(self):
        for row in small_rows():
            with self.subTest(row):
                self.assertEqual(asked(self, ring, row), walked(row))

    def test_step_by_step_with_many_members(self):
        chance = random.Random(132)
        for size in range(5, 13):
            for most in (1, 3, 12, 40):
                row = [chance.randint(0, most) for member in range(size)]
                with self.subTest(row):
                    self.assertEqual(asked(self, ring, row), walked(row))

    def test_what_holds_for_all(self):
        for row in drawn_rows(133):
            with soon():
                table = asked(self, ring, row)
            self.assertEqual([len(one) for one in table], [len(row)] * len(row))
            for i, one in enumerate(table):
                self.assertTrue(sum(one) == 2 * row[i])
                self.assertTrue(one[i] == max(0, 2 * (row[i] - (sum(row) - row[i]))))
                for j, stake in enumerate(one):
                    self.assertTrue(stake >= 0)
                    self.assertTrue(stake == table[j][i])

    def test_greater_weights_lie_alike(self):
        for row in ([1, 2, 3], [4, 0, 3, 2, 2], [1] * 12, [9, 1, 1], [7]):
            grown = [[stake * GREAT for stake in one] for one in walked(row)]
            with soon():
                self.assertTrue(asked(self, ring, [weight * GREAT for weight in row]) == grown)


class TestWheel(unittest.TestCase):
    def test_written_ones(self):
        self.assertEqual(asked(self, wheel, []), [])
        self.assertEqual(asked(self, wheel, [0]), [[0]])
        self.assertEqual(asked(self, wheel, [3]), [[0]])
        self.assertEqual(asked(self, wheel, [2, 2]), [[0, 4], [4, 0]])
        self.assertEqual(asked(self, wheel, [1, 1, 1]), [[0, 1, 1], [1, 0, 1], [1, 1, 0]])
        self.assertEqual(asked(self, wheel, [3, 1]), [[0, 2], [2, 0]])
        self.assertEqual(asked(self, wheel, [1, 9, 2]), [[0, 2, 0], [2, 0, 4], [0, 4, 0]])
        self.assertEqual(asked(self, wheel, [0, 1, 0]), [[0, 0, 0], [0, 0, 0], [0, 0, 0]])

    def test_as_much_as_all_others_and_one_more(self):
        self.assertEqual(asked(self, wheel, [3, 1, 2]), [[0, 2, 4], [2, 0, 0], [4, 0, 0]])
        self.assertEqual(asked(self, wheel, [4, 1, 2]), [[0, 2, 4], [2, 0, 0], [4, 0, 0]])
        self.assertEqual(asked(self, wheel, [2, 1, 2]), [[0, 1, 3], [1, 0, 1], [3, 1, 0]])

    def test_small_rows(self):
        for row in small_rows():
            with self.subTest(row):
                self.assertEqual(asked(self, wheel, row), self.looked_for(row, walked(row)))

    def test_up_to_twelve_members(self):
        for row in drawn_rows(134):
            with soon():
                told = asked(self, wheel, row)
            self.assertTrue(told == self.looked_for(row, ring(row)))

    def looked_for(self, row, table):
        heavy = heavy_one(row)
        if heavy is None:
            return table
        table = [[0 for other in row] for member in row]
        for member, weight in enumerate(row):
            if member != heavy:
                table[member][heavy] = table[heavy][member] = 2 * weight
        return table

    def test_nobody_bets_against_themselves(self):
        for row in drawn_rows(135):
            self.assertEqual([one[at] for at, one in enumerate(wheel(row))], [0] * len(row))


if __name__ == "__main__":
    unittest.main()
