"""Points [6] and [7]: outlivers.strokes."""

import math
import random
import unittest

from outlivers.strokes import even, gains, moved, struck
from outlivers.units import laid
from tests.helper import answered, asked, bet_cases, evened, soon

GREAT = 10 ** 5000
THREE = [[0, 1, 2], [3, 0, 4], [5, 6, 0]]


def tables(seed):
    """Tickets and bet tables, even ones and others, of no members up to twelve."""
    for tickets, table in bet_cases(seed, 1000000):
        yield tickets, table
        yield tickets, evened(table)


def deaths(tickets):
    return [None] + list(range(len(tickets)))


def by_parts(bets, tickets, dead):
    """What moves, reckoned payment by payment."""
    richer = [0 for many in tickets]
    for i, row in enumerate(bets):
        for j, many in enumerate(row):
            paid = many * tickets[j] // math.gcd(tickets[i], tickets[j])
            if i == dead and i != j:
                richer[i] -= paid
                richer[j] += paid
    return richer


def bent(table, i, j, by):
    """A copy of a table with one number another one."""
    copied = [list(row) for row in table]
    copied[i][j] += by
    return copied


class TestMoved(unittest.TestCase):
    def test_no_members(self):
        self.assertEqual(asked(self, moved, [], [], None), [])

    def test_one_member(self):
        for many in (1, 12, 1000):
            for dead in (0, None):
                self.assertEqual(asked(self, moved, [[0]], [many], dead), [0])

    def test_two_members(self):
        self.assertEqual(asked(self, moved, [[0, 5], [5, 0]], [6, 4], 0), [-10, 10])
        self.assertEqual(asked(self, moved, [[0, 5], [5, 0]], [6, 4], 1), [15, -15])
        self.assertEqual(asked(self, moved, [[0, 5], [5, 0]], [6, 4], None), [0, 0])

    def test_a_table_that_is_not_even(self):
        self.assertEqual(asked(self, moved, [[0, 5], [0, 0]], [6, 4], 0), [-10, 10])
        self.assertEqual(asked(self, moved, [[0, 5], [0, 0]], [6, 4], 1), [0, 0])
        self.assertEqual(asked(self, moved, THREE, [1, 2, 4], 0), [-10, 2, 8])
        self.assertEqual(asked(self, moved, THREE, [1, 2, 4], 1), [3, -11, 8])
        self.assertEqual(asked(self, moved, THREE, [1, 2, 4], 2), [5, 6, -11])

    def test_nobody_dies(self):
        for size in range(13):
            bets = [[0 if i == j else 3 for j in range(size)] for i in range(size)]
            self.assertEqual(asked(self, moved, bets, [7] * size, None), [0] * size)

    def test_very_great_numbers(self):
        told = asked(self, moved, [[0, GREAT], [GREAT + 1, 0]], [1000, 999], 0)
        self.assertTrue(told == [-999 * GREAT, 999 * GREAT])
        told = asked(self, moved, [[0, GREAT], [GREAT + 1, 0]], [1000, 999], 1)
        self.assertTrue(told == [1000 * GREAT + 1000, -1000 * GREAT - 1000])

    def test_up_to_twelve_members(self):
        for tickets, bets in tables(61):
            costs = laid(bets, tickets)
            for dead in deaths(tickets):
                with self.subTest(tickets=tickets, dead=dead), soon():
                    told = asked(self, moved, bets, tickets, dead)
                    self.assertEqual(told, by_parts(bets, tickets, dead))
                    self.assertEqual(sum(told), 0)
                    if dead is not None:
                        self.assertEqual(told[dead], -costs[dead])


class TestStruck(unittest.TestCase):
    def test_no_members(self):
        self.assertEqual(asked(self, struck, [], [], [], None), [])

    def test_one_member(self):
        for held in (0, 7, 10 ** 300):
            for dead in (0, None):
                self.assertEqual(asked(self, struck, [held], [[0]], [12], dead), [held])

    def test_two_members(self):
        self.assertEqual(asked(self, struck, [10, 20], [[0, 5], [5, 0]], [6, 4], 0), [0, 30])
        self.assertEqual(asked(self, struck, [10, 20], [[0, 5], [5, 0]], [6, 4], 1), [25, 5])
        self.assertEqual(asked(self, struck, [10, 20], [[0, 5], [5, 0]], [6, 4], None), [10, 20])

    def test_a_table_that_is_not_even(self):
        self.assertEqual(asked(self, struck, [10, 11, 12], THREE, [1, 2, 4], 0), [0, 13, 20])
        self.assertEqual(asked(self, struck, [10, 11, 12], THREE, [1, 2, 4], 1), [13, 0, 20])
        self.assertEqual(asked(self, struck, [10, 11, 12], THREE, [1, 2, 4], 2), [15, 17, 1])

    def test_very_great_numbers(self):
        told = asked(self, struck, [1000 * GREAT, 5], [[0, GREAT], [0, 0]], [1000, 999], 0)
        self.assertTrue(told == [GREAT, 999 * GREAT + 5])

    def test_up_to_twelve_members(self):
        chance = random.Random(62)
        for tickets, bets in tables(63):
            costs = laid(bets, tickets)
            for more in (0, 1, 10 ** 6):
                coins = [cost + chance.randint(0, more) for cost in costs]
                for dead in deaths(tickets):
                    with self.subTest(tickets=tickets, dead=dead), soon():
                        self.borne(coins, bets, tickets, dead)

    def borne(self, coins, bets, tickets, dead):
        told = asked(self, struck, coins, bets, tickets, dead)
        self.assertEqual(told, [held + more for held, more in zip(coins, by_parts(bets, tickets, dead))])
        self.assertEqual(sum(told), sum(coins))
        self.assertGreaterEqual(min(told, default=0), 0)


class TestGains(unittest.TestCase):
    def test_no_members(self):
        self.assertEqual(asked(self, gains, [], []), [])

    def test_one_member(self):
        for many in (1, 12, 1000):
            self.assertEqual(asked(self, gains, [[0]], [many]), [0])

    def test_two_members(self):
        self.assertEqual(asked(self, gains, [[0, 5], [5, 0]], [6, 4]), [0, 0])
        self.assertEqual(asked(self, gains, [[0, 5], [0, 0]], [6, 4]), [-60, 60])
        self.assertEqual(asked(self, gains, [[0, 0], [5, 0]], [6, 4]), [60, -60])

    def test_three_members(self):
        self.assertEqual(asked(self, gains, THREE, [1, 2, 4]), [-10 + 6 + 20, 2 - 22 + 24, 8 + 16 - 44])

    def test_very_great_numbers(self):
        told = asked(self, gains, [[0, GREAT], [GREAT + 1, 0]], [1000, 999])
        self.assertTrue(told == [999000, -999000])

    def test_death_by_death(self):
        for tickets, bets in tables(71):
            counted = [0 for many in tickets]
            for dead, many in enumerate(tickets):
                counted = [now + many * more for now, more in zip(counted, by_parts(bets, tickets, dead))]
            with self.subTest(tickets=tickets), soon():
                self.assertEqual(asked(self, gains, bets, tickets), counted)

    def test_nought_for_even_tables(self):
        for tickets, table in bet_cases(72, 1000000):
            self.assertEqual(gains(evened(table), tickets), [0 for many in tickets])

    def test_a_table_bent_at_one_place(self):
        for tickets, table in bet_cases(73, 1000000):
            bets = evened(table)
            for i in range(len(tickets)):
                for j in range(len(tickets)):
                    if i != j:
                        with self.subTest(tickets=tickets, i=i, j=j):
                            self.favours(bent(bets, i, j, 3), tickets, i, j, 3)

    def favours(self, bets, tickets, i, j, by):
        weight = by * math.lcm(tickets[i], tickets[j])
        looked_for = [0 for many in tickets]
        looked_for[i], looked_for[j] = -weight, weight
        self.assertEqual(gains(bets, tickets), looked_for)


class TestEven(unittest.TestCase):
    def test_no_members_and_one(self):
        self.assertIs(answered(self, even, []), True)
        self.assertIs(answered(self, even, [[0]]), True)

    def test_two_members(self):
        self.assertIs(answered(self, even, [[0, 5], [5, 0]]), True)
        self.assertIs(answered(self, even, [[0, 5], [4, 0]]), False)
        self.assertIs(answered(self, even, [[0, 0], [1, 0]]), False)
        self.assertIs(answered(self, even, [[0, 1], [0, 0]]), False)

    def test_one_number_another_one(self):
        for tickets, table in bet_cases(64, 1000000):
            bets = evened(table)
            self.assertIs(answered(self, even, bets), True)
            for i in range(len(bets)):
                for j in range(len(bets)):
                    if i != j:
                        self.assertIs(answered(self, even, bent(bets, i, j, 1)), False)

    def test_very_great_numbers(self):
        self.assertIs(answered(self, even, [[0, GREAT], [GREAT, 0]]), True)
        self.assertIs(answered(self, even, [[0, GREAT], [GREAT + 1, 0]]), False)

    def test_as_many_in_all_is_not_even(self):
        self.assertIs(answered(self, even, [[0, 1, 0], [0, 0, 1], [1, 0, 0]]), False)
        self.assertEqual(gains([[0, 1, 0], [0, 0, 1], [1, 0, 0]], [1, 1, 1]), [0, 0, 0])


if __name__ == "__main__":
    unittest.main()
