"""Points [5], [6] and [14]: outlivers.units."""

import math
import unittest

from outlivers.units import bets_of, divisor, laid, unit, unit_weight
from tests.helper import asked, bet_cases, evened, soon

GREAT = 10 ** 5000

# The numbers of Fibonacci ask the most steps of whoever divides over and over.
FIBONACCI = [1, 1]
while len(FIBONACCI) < 4000:
    FIBONACCI.append(FIBONACCI[-1] + FIBONACCI[-2])

PAIRS = (
    (1, 1, 1), (1, 7, 1), (1, 1000, 1), (2, 3, 1), (6, 4, 2), (12, 18, 6), (5, 5, 5), (1000, 1000, 1000),
    (1000, 999, 1), (1000, 250, 250), (640, 1000, 40), (17, 34, 17),
)

GREAT_PAIRS = (
    (10 ** 400, 1, 1),
    (10 ** 400, 3, 1),
    (10 ** 400, 10 ** 300, 10 ** 300),
    (10 ** 400, 10 ** 400, 10 ** 400),
    (10 ** 400, 10 ** 400 + 1, 1),
    (6 ** 300 * 5, 6 ** 200 * 7 ** 100, 6 ** 200),
    (3 ** 900, 2 ** 1400, 1),
    (FIBONACCI[-1], FIBONACCI[-2], 1),
    (FIBONACCI[-1] * 12345, FIBONACCI[-2] * 12345, 12345),
    (GREAT * 7, GREAT * 5, GREAT),
    (GREAT, 1, 1),
)


def both_ways(pairs):
    for a, b, shared in pairs:
        yield a, b, shared
        yield b, a, shared


class TestDivisor(unittest.TestCase):
    def test_small_ones(self):
        for a, b, shared in both_ways(PAIRS):
            with self.subTest(a=a, b=b):
                self.assertEqual(asked(self, divisor, a, b), shared)

    def test_all_up_to_sixty(self):
        for a in range(1, 61):
            for b in range(1, 61):
                greatest = max(k for k in range(1, 61) if a % k == 0 and b % k == 0)
                self.assertEqual(divisor(a, b), greatest, (a, b))

    def test_very_great_ones_are_told_soon(self):
        for at, (a, b, shared) in enumerate(both_ways(GREAT_PAIRS)):
            with self.subTest(at), soon():
                self.assertTrue(asked(self, divisor, a, b) == shared)


class TestUnit(unittest.TestCase):
    def test_what_it_costs_both(self):
        for a, b, costs in (
            (1, 1, (1, 1)), (1, 7, (7, 1)), (7, 1, (1, 7)), (2, 3, (3, 2)), (6, 4, (2, 3)), (12, 18, (3, 2)),
            (1000, 250, (1, 4)), (1000, 1000, (1, 1)), (999, 1000, (1000, 999)), (640, 1000, (25, 16)),
        ):
            with self.subTest(a=a, b=b):
                told = asked(self, unit, a, b)
                self.assertEqual(told, costs)
                self.assertIs(type(told), tuple)

    def test_what_it_costs_where_the_numbers_are_very_great(self):
        for at, (a, b, shared) in enumerate(both_ways(GREAT_PAIRS)):
            with self.subTest(at), soon():
                self.assertTrue(asked(self, unit, a, b) == (b // shared, a // shared))

    def test_the_other_way_round_is_turned(self):
        for a, b, shared in PAIRS + GREAT_PAIRS:
            first, second = unit(a, b)
            self.assertTrue(unit(b, a) == (second, first))

    def test_it_is_even(self):
        for a, b, shared in PAIRS + GREAT_PAIRS:
            first, second = unit(a, b)
            self.assertTrue(a * first == b * second)
            self.assertEqual(math.gcd(first, second), 1)


class TestUnitWeight(unittest.TestCase):
    def test_small_ones(self):
        for a, b, weight in (
            (1, 1, 1), (1, 7, 7), (2, 3, 6), (6, 4, 12), (12, 18, 36), (5, 5, 5), (1000, 250, 1000),
            (1000, 1000, 1000), (999, 1000, 999000),
        ):
            with self.subTest(a=a, b=b):
                self.assertEqual(asked(self, unit_weight, a, b), weight)
                self.assertEqual(asked(self, unit_weight, b, a), weight)

    def test_it_is_what_each_ones_cost_weighs(self):
        for a, b, shared in both_ways(PAIRS + GREAT_PAIRS):
            with soon():
                weight = asked(self, unit_weight, a, b)
            self.assertTrue(weight == a * b // shared)
            self.assertTrue(weight == unit_weight(b, a))
            self.assertTrue(weight == a * unit(a, b)[0])


class TestLaid(unittest.TestCase):
    def test_no_members(self):
        self.assertEqual(asked(self, laid, [], []), [])

    def test_one_member(self):
        for many in (1, 12, 1000):
            self.assertEqual(asked(self, laid, [[0]], [many]), [0])

    def test_two_members(self):
        self.assertEqual(asked(self, laid, [[0, 1], [1, 0]], [2, 3]), [3, 2])
        self.assertEqual(asked(self, laid, [[0, 5], [5, 0]], [6, 4]), [10, 15])
        self.assertEqual(asked(self, laid, [[0, 0], [0, 0]], [6, 4]), [0, 0])

    def test_a_table_that_is_not_even(self):
        self.assertEqual(asked(self, laid, [[0, 5], [0, 0]], [6, 4]), [10, 0])
        self.assertEqual(asked(self, laid, [[0, 0], [5, 0]], [6, 4]), [0, 15])
        self.assertEqual(asked(self, laid, [[0, 1, 2], [3, 0, 4], [5, 6, 0]], [1, 2, 4]), [10, 11, 11])

    def test_three_members_and_an_even_table(self):
        self.assertEqual(asked(self, laid, [[0, 2, 1], [2, 0, 0], [1, 0, 0]], [4, 6, 10]), [11, 4, 2])

    def test_very_great_numbers(self):
        told = asked(self, laid, [[0, GREAT], [GREAT + 1, 0]], [1000, 999])
        self.assertTrue(told == [999 * GREAT, 1000 * GREAT + 1000])

    def test_up_to_twelve_members(self):
        for tickets, table in bet_cases(6, 1000000):
            for bets in (table, evened(table)):
                with self.subTest(tickets=tickets), soon():
                    self.assertEqual(asked(self, laid, bets, tickets), self.by_parts(bets, tickets))

    def by_parts(self, bets, tickets):
        return [
            sum(many * (tickets[j] // math.gcd(tickets[i], tickets[j])) for j, many in enumerate(row))
            for i, row in enumerate(bets)
        ]


class TestBetsOf(unittest.TestCase):
    def test_no_members(self):
        self.assertEqual(asked(self, bets_of, [], []), [])

    def test_one_member(self):
        for many in (1, 12, 1000):
            self.assertEqual(asked(self, bets_of, [[0]], [many]), [[0]])

    def test_just_one_less_and_one_more(self):
        for tickets, weight in (([1, 1], 1), ([6, 4], 12), ([1000, 999], 999000), ([1000, 1000], 1000)):
            for units in (1, 2, 9, 10 ** 300):
                just = 2 * units * weight
                for stake, many in ((just, units), (just - 1, units - 1), (just + 1, units)):
                    with self.subTest(tickets=tickets, weight=weight, more=stake - just):
                        told = asked(self, bets_of, [[0, stake], [stake, 0]], tickets)
                        self.assertEqual(told, [[0, many], [many, 0]])

    def test_an_odd_stake_holds_no_half_unit(self):
        self.assertEqual(asked(self, bets_of, [[0, 1], [1, 0]], [1, 1]), [[0, 0], [0, 0]])
        self.assertEqual(asked(self, bets_of, [[0, 3], [3, 0]], [1, 1]), [[0, 1], [1, 0]])

    def test_nought(self):
        for size in range(13):
            table = [[0] * size for row in range(size)]
            self.assertEqual(asked(self, bets_of, table, [7] * size), table)

    def test_stakes_that_are_not_alike_either_way(self):
        self.assertEqual(asked(self, bets_of, [[0, 24], [71, 0]], [6, 4]), [[0, 1], [2, 0]])
        self.assertEqual(
            asked(self, bets_of, [[0, 4, 8], [11, 0, 16], [40, 7, 0]], [1, 2, 4]), [[0, 1, 1], [2, 0, 2], [5, 0, 0]]
        )

    def test_very_great_stakes(self):
        told = asked(self, bets_of, [[0, GREAT], [24 * GREAT, 0]], [6, 4])
        self.assertTrue(told == [[0, GREAT // 24], [GREAT, 0]])

    def test_up_to_twelve_members(self):
        for tickets, table in bet_cases(14, 10 ** 7):
            for stakes in (table, evened(table)):
                with self.subTest(tickets=tickets), soon():
                    self.holds(stakes, tickets, asked(self, bets_of, stakes, tickets))

    def holds(self, stakes, tickets, bets):
        self.assertEqual([len(row) for row in bets], [len(tickets)] * len(tickets))
        for i, row in enumerate(bets):
            for j, many in enumerate(row):
                if i == j:
                    self.assertEqual(many, 0)
                else:
                    twice = 2 * math.lcm(tickets[i], tickets[j])
                    self.assertGreaterEqual(many, 0)
                    self.assertLessEqual(many * twice, stakes[i][j])
                    self.assertGreater((many + 1) * twice, stakes[i][j])

    def test_alike_stakes_make_an_even_table(self):
        for tickets, table in bet_cases(15, 10 ** 7):
            bets = bets_of(evened(table), tickets)
            self.assertEqual(bets, evened(bets))


if __name__ == "__main__":
    unittest.main()
