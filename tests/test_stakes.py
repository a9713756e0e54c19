"""Points [10], [11], [12] and [14]: outlivers.stakes."""

import functools
import itertools
import math
import random
import unittest

from outlivers.stakes import best_cover, cover_weight, fault, good_cover, greatest, show, shut_of, sum_of
from outlivers.strokes import even
from outlivers.units import bets_of, laid
from outlivers.weights import overweight, weights
from outlivers.wheel import wheel
from tests.helper import answered, are_tied, asked, soon, tie_cases

GREAT = 10 ** 5000
LEAST = -(10 ** 5000)


def first_fault(row, ties, stakes):
    """The fault by the words of point [10]."""
    for i, one in enumerate(stakes):
        for j, stake in enumerate(one):
            for word, holds in (
                ("low", stake < 0),
                ("self", i == j and stake != 0),
                ("lone", stake > 0 and not are_tied(ties, i, j)),
                ("odd", stake != stakes[j][i]),
            ):
                if holds:
                    return (word, i, j)
        if sum(one) > 2 * row[i]:
            return ("over", i, -1)
    return None


def is_good(ties, cover):
    places = range(len(cover))
    return not [1 for i in places for j in places if are_tied(ties, i, j) and cover[i] + cover[j] < 2]


def shown(row, ties, stakes, cover):
    """Whether a table and a cover show one another, by the words of point [12]."""
    sums = (sum(map(sum, stakes)), 2 * sum(weight * many for weight, many in zip(row, cover)))
    return first_fault(row, ties, stakes) is None and is_good(ties, cover) and sums[0] == sums[1]


def good_covers(ties, size):
    return [list(cover) for cover in itertools.product(range(3), repeat=size) if is_good(ties, cover)]


def pairs_of(ties, size):
    return [(i, j) for j in range(size) for i in range(j) if are_tied(ties, i, j)]


def best_sum(row, ties):
    """The greatest sum of all tables without a fault, every one of them looked at."""
    pairs = pairs_of(ties, len(row))

    @functools.lru_cache(maxsize=None)
    def best(at, left):
        if at == len(pairs):
            return 0
        i, j = pairs[at]
        found = 0
        for stake in range(min(left[i], left[j]) + 1):
            rest = list(left)
            rest[i] -= stake
            rest[j] -= stake
            found = max(found, 2 * stake + best(at + 1, tuple(rest)))
        return found

    return best(0, tuple(2 * weight for weight in row))


def drawn_table(chance, row, ties):
    """A table without a fault."""
    left = [2 * weight for weight in row]
    table = [[0] * len(row) for member in row]
    pairs = pairs_of(ties, len(row))
    chance.shuffle(pairs)
    for i, j in pairs:
        stake = chance.choice((0, chance.randint(0, min(left[i], left[j])), min(left[i], left[j])))
        table[i][j] = table[j][i] = stake
        left[i] -= stake
        left[j] -= stake
    return table


def any_shuts(row, ties):
    """True where one of all lists of members shuts."""
    for bits in range(1 << len(row)):
        some = [member for member in range(len(row)) if bits >> member & 1]
        if weighs_more(row, ties, some):
            return True
    return False


def weighs_more(row, ties, some):
    around = [member for member in range(len(row)) if any(are_tied(ties, member, one) for one in some)]
    return sum(row[member] for member in some) > sum(row[member] for member in around)


def ring_of(size):
    return [(member, (member + 1) % size) for member in range(size)]


def small_cases():
    """Up to four members with small weights, ties None and all others of two and three, drawn ones of four."""
    for size in range(4):
        pairs = pairs_of(None, size)
        for many in range(len(pairs) + 1):
            for ties in itertools.combinations(pairs, many):
                for row in itertools.product(range(4), repeat=size):
                    yield list(row), list(ties)
        for row in itertools.product(range(4), repeat=size):
            yield list(row), None
    yield from tie_cases(111, (4, 4, 5), (1, 2, 3), rounds=2)


def great_cases():
    yield from tie_cases(112, range(13), (0, 1, 7, 10 ** 9, 10 ** 40))
    yield from tie_cases(113, (2, 5, 12), (GREAT,))


class TestFault(unittest.TestCase):
    def told(self, row, ties, stakes):
        found = asked(self, fault, row, ties, stakes)
        self.assertIn(type(found), (tuple, type(None)))
        return found

    def test_none(self):
        for row, ties, stakes in (
            ([], None, []), ([], [], []), ([0], None, [[0]]), ([5], [], [[0]]),
            ([1, 1], None, [[0, 2], [2, 0]]), ([1, 2], [(1, 0)], [[0, 1], [1, 0]]),
            ([1, 1, 1], [(0, 1), (2, 1), (0, 2)], [[0, 1, 1], [1, 0, 1], [1, 1, 0]]),
        ):
            with self.subTest(stakes=stakes):
                self.assertIsNone(self.told(row, ties, stakes))

    def test_low(self):
        self.assertEqual(self.told([5, 5], None, [[0, -1], [-1, 0]]), ("low", 0, 1))
        self.assertEqual(self.told([5, 5], [], [[0, -1], [1, 0]]), ("low", 0, 1))
        self.assertEqual(self.told([5], None, [[-1]]), ("low", 0, 0))
        self.assertEqual(self.told([5, 5], None, [[0, 0], [0, -3]]), ("low", 1, 1))

    def test_self(self):
        self.assertEqual(self.told([5], None, [[1]]), ("self", 0, 0))
        self.assertEqual(self.told([0], [], [[1]]), ("self", 0, 0))
        self.assertEqual(self.told([5, 5], None, [[0, 2], [2, 2]]), ("self", 1, 1))

    def test_lone(self):
        self.assertEqual(self.told([5, 5], [], [[0, 2], [2, 0]]), ("lone", 0, 1))
        self.assertEqual(self.told([5, 5], [], [[0, 2], [1, 0]]), ("lone", 0, 1))
        self.assertEqual(self.told([5, 5, 5], [(0, 1), (0, 2)], [[0, 1, 1], [1, 0, 1], [1, 1, 0]]), ("lone", 1, 2))

    def test_odd(self):
        self.assertEqual(self.told([5, 5], None, [[0, 2], [1, 0]]), ("odd", 0, 1))
        self.assertEqual(self.told([5, 5], None, [[0, 0], [1, 0]]), ("odd", 0, 1))
        self.assertEqual(self.told([5, 5], [], [[0, 0], [1, 0]]), ("odd", 0, 1))
        self.assertEqual(self.told([5, 5], [], [[0, 0], [-1, 0]]), ("odd", 0, 1))
        self.assertEqual(self.told([5, 5, 5], None, [[0, 1, 1], [1, 0, 2], [1, 1, 0]]), ("odd", 1, 2))

    def test_over(self):
        self.assertIsNone(self.told([2, 9], None, [[0, 4], [4, 0]]))
        self.assertEqual(self.told([1, 9], None, [[0, 3], [3, 0]]), ("over", 0, -1))
        self.assertEqual(self.told([9, 1], None, [[0, 3], [3, 0]]), ("over", 1, -1))
        self.assertEqual(self.told([1, 1], [(0, 1)], [[0, 4], [4, 0]]), ("over", 0, -1))
        self.assertEqual(self.told([9, 9, 1], None, [[0, 1, 1], [1, 0, 2], [1, 2, 0]]), ("over", 2, -1))

    def test_the_first_list_goes_first(self):
        self.assertEqual(self.told([1, 9], None, [[0, 4], [4, -1]]), ("over", 0, -1))
        self.assertEqual(self.told([9, 9], None, [[0, 4], [4, -1]]), ("low", 1, 1))
        self.assertEqual(self.told([1, 1], None, [[1, -1], [3, 0]]), ("self", 0, 0))
        self.assertEqual(self.told([1, 1], None, [[0, 3], [-1, 0]]), ("odd", 0, 1))

    def test_the_first_place_goes_first(self):
        self.assertEqual(self.told([1, 1, 1], None, [[0, 9, -1], [8, 0, 0], [-1, 0, 0]]), ("odd", 0, 1))
        self.assertEqual(self.told([1, 1, 1], [(0, 2)], [[0, 9, -1], [9, 0, 0], [-1, 0, 0]]), ("lone", 0, 1))
        self.assertEqual(self.told([1, 1, 1], None, [[0, 9, -1], [9, 0, 0], [-1, 0, 0]]), ("low", 0, 2))

    def test_very_great_numbers(self):
        self.assertIsNone(self.told([GREAT, GREAT], None, [[0, 2 * GREAT], [2 * GREAT, 0]]))
        self.assertEqual(self.told([GREAT, GREAT], None, [[0, 2 * GREAT], [2 * GREAT + 1, 0]]), ("odd", 0, 1))
        self.assertEqual(
            self.told([GREAT, GREAT], None, [[0, 2 * GREAT + 1], [2 * GREAT + 1, 0]]), ("over", 0, -1)
        )
        self.assertEqual(self.told([1, 1], None, [[0, LEAST], [0, 0]]), ("low", 0, 1))

    def test_drawn_tables(self):
        chance = random.Random(101)
        words = set()
        for row, ties in tie_cases(102, range(7), (1, 4, 30), rounds=6):
            table = drawn_table(chance, row, ties)
            for places in range(4):
                looked_for = first_fault(row, ties, table)
                words.add(looked_for and looked_for[0])
                with self.subTest(row=row, ties=ties, table=table):
                    self.assertEqual(self.told(row, ties, table), looked_for)
                if row:
                    i, j = chance.randrange(len(row)), chance.randrange(len(row))
                    table[i][j] += chance.choice((-2, -1, 1, 2))
                    if chance.random() < 0.5:
                        table[j][i] = table[i][j]
        self.assertEqual(words, {None, "low", "self", "lone", "odd", "over"})


class TestSumOf(unittest.TestCase):
    def test_any_numbers(self):
        for stakes, looked_for in (
            ([], 0), ([[0]], 0), ([[7]], 7), ([[-7]], -7), ([[0, 2], [2, 0]], 4), ([[1, -2], [3, -9]], -7),
            ([[0, 1, 2], [3, 4, 5], [6, 7, 8]], 36),
        ):
            self.assertEqual(asked(self, sum_of, stakes), looked_for)
        self.assertTrue(asked(self, sum_of, [[LEAST, 1], [1, 3 * GREAT]]) == 2 * GREAT + 2)

    def test_twelve_members(self):
        chance = random.Random(114)
        stakes = [[chance.randint(-9, 9) for other in range(12)] for member in range(12)]
        self.assertEqual(asked(self, sum_of, stakes), sum(itertools.chain.from_iterable(stakes)))


class TestGreatest(unittest.TestCase):
    def test_written_ones(self):
        for row, ties, looked_for in (
            ([], None, []), ([], [], []), ([4], None, [[0]]), ([4], [], [[0]]),
            ([3, 5], None, [[0, 6], [6, 0]]), ([3, 5], [], [[0, 0], [0, 0]]), ([3, 5], [(1, 0)], [[0, 6], [6, 0]]),
            ([1, 1, 1], None, [[0, 1, 1], [1, 0, 1], [1, 1, 0]]),
            ([2, 5, 1], [(0, 1), (1, 2)], [[0, 4, 0], [4, 0, 2], [0, 2, 0]]),
            ([0, 0, 0], None, [[0, 0, 0], [0, 0, 0], [0, 0, 0]]),
            ([1, 1, 1, 1], [(0, 1), (1, 2), (2, 3)], [[0, 2, 0, 0], [2, 0, 0, 0], [0, 0, 0, 2], [0, 0, 2, 0]]),
        ):
            with self.subTest(row=row, ties=ties):
                self.assertEqual(asked(self, greatest, row, ties), looked_for)

    def told(self, row, ties):
        with soon():
            table = asked(self, greatest, row, ties)
        self.assertEqual([len(one) for one in table], [len(row)] * len(row))
        self.assertIsNone(first_fault(row, ties, table))
        return table

    def test_no_table_has_a_greater_sum(self):
        for row, ties in small_cases():
            with self.subTest(row=row, ties=ties):
                self.assertEqual(sum_of(self.told(row, ties)), best_sum(row, ties))

    def test_the_least_of_all_good_covers_bounds_it(self):
        for row, ties in tie_cases(115, range(7), (1, 5, 10 ** 9), rounds=3):
            least = min(cover_weight(row, cover) for cover in good_covers(ties, len(row)))
            with self.subTest(row=row, ties=ties):
                self.assertEqual(sum_of(self.told(row, ties)), 2 * least)

    def test_odd_rings_lay_halves(self):
        for size in (3, 5, 7, 9, 11):
            for weight in (1, 3, GREAT):
                table = self.told([weight] * size, ring_of(size))
                self.assertTrue(table[0][1] == weight)
                self.assertTrue([sum(one) for one in table] == [2 * weight] * size)

    def test_rings_with_one_tied_to_one_of_them(self):
        for size in (3, 4, 5, 6, 7):
            row = [1] * size + [2]
            ties = ring_of(size) + [(0, size)]
            least = min(cover_weight(row, cover) for cover in good_covers(ties, size + 1))
            self.assertEqual(sum_of(self.told(row, ties)), 2 * least)

    def test_up_to_twelve_members(self):
        for row, ties in great_cases():
            table = self.told(row, ties)
            full = [sum(one) for one in table] == [2 * weight for weight in row]
            with soon():
                self.assertEqual(full, shut_of(row, ties) is None)

    def test_every_two_tied(self):
        for row, ties in great_cases():
            table = self.told(row, None)
            full = [sum(one) for one in table] == [2 * weight for weight in row]
            self.assertEqual(full, overweight(row) is None)
            self.assertIsNone(first_fault(row, None, wheel(row)))
            self.assertTrue(sum_of(table) == sum_of(wheel(row)))


class TestShutOf(unittest.TestCase):
    def told(self, row, ties):
        with soon():
            some = asked(self, shut_of, row, ties)
        if some is not None:
            self.assertEqual(some, sorted(set(some)))
            self.assertTrue(set(some) <= set(range(len(row))))
            self.assertTrue(weighs_more(row, ties, some))
        return some

    def test_written_ones(self):
        for row, ties, looked_for in (
            ([], None, None), ([], [], None), ([0], None, None), ([1], None, [0]), ([1], [], [0]),
            ([5, 5], None, None), ([6, 5], None, [0]), ([5, 6], [(0, 1)], [1]),
            ([1, 1, 1], None, None), ([1, 1, 1], [(0, 1), (1, 2)], [0, 2]), ([1, 2, 1], [(0, 1), (1, 2)], None),
            ([0, 2, 0], [(0, 1), (1, 2)], [1]),
        ):
            with self.subTest(row=row, ties=ties):
                self.assertEqual(self.told(row, ties), looked_for)

    def test_just_where_some_list_shuts(self):
        for row, ties in small_cases():
            with self.subTest(row=row, ties=ties):
                self.assertEqual(self.told(row, ties) is not None, any_shuts(row, ties))

    def test_up_to_twelve_members(self):
        for row, ties in great_cases():
            self.told(row, ties)
        for row, ties in tie_cases(116, (7, 8, 9), (3, 10 ** 9)):
            self.assertEqual(self.told(row, ties) is not None, any_shuts(row, ties))

    def test_every_two_tied(self):
        for row, ties in great_cases():
            heavy = overweight(row)
            self.assertEqual(self.told(row, None), None if heavy is None else [heavy])


class TestCovers(unittest.TestCase):
    def test_good_cover(self):
        for ties, cover, looked_for in (
            (None, [], True), ([], [], True), (None, [0], True), ([], [0, 0], True), (None, [0, 2], True),
            (None, [1, 1], True), (None, [0, 1], False), (None, [0, 0], False), (None, [2, 2], True),
            (None, [0, 2, 2], True), (None, [0, 2, 0], False), (None, [1, 1, 0], False), ([(1, 0)], [1, 1, 0], True),
            ([(1, 0), (1, 2)], [0, 2, 0], True), ([(1, 0), (2, 1), (1, 2)], [1, 1, 0], False),
        ):
            with self.subTest(ties=ties, cover=cover):
                self.assertIs(answered(self, good_cover, ties, cover), looked_for)

    def test_all_covers(self):
        for row, ties in tie_cases(121, range(6), (1,)):
            for cover in itertools.product(range(3), repeat=len(row)):
                self.assertIs(good_cover(ties, list(cover)), is_good(ties, cover))

    def test_cover_weight(self):
        self.assertEqual(asked(self, cover_weight, [], []), 0)
        self.assertEqual(asked(self, cover_weight, [7], [0]), 0)
        self.assertEqual(asked(self, cover_weight, [7, 5, 3], [0, 1, 2]), 11)
        self.assertEqual(asked(self, cover_weight, [0, 0], [2, 2]), 0)
        self.assertTrue(asked(self, cover_weight, [GREAT, 1], [2, 1]) == 2 * GREAT + 1)

    def test_no_table_goes_beyond_a_good_cover(self):
        chance = random.Random(122)
        for row, ties in tie_cases(123, range(6), (1, 6, 10 ** 9)):
            with soon():
                tables = [greatest(row, ties)]
            tables.extend(drawn_table(chance, row, ties) for time in range(6))
            most = max(map(sum_of, tables))
            for cover in good_covers(ties, len(row)):
                self.assertLessEqual(most, 2 * cover_weight(row, cover))


class TestBestCover(unittest.TestCase):
    def told(self, row, ties):
        with soon():
            cover = asked(self, best_cover, row, ties)
        self.assertEqual(len(cover), len(row))
        self.assertTrue(set(cover) <= {0, 1, 2})
        return cover

    def test_written_ones(self):
        for row, ties, looked_for in (
            ([], None, []), ([4], None, [0]), ([1, 1, 1], None, [1, 1, 1]), ([9, 1, 2], None, [0, 2, 2]),
            ([2, 5, 2], [(0, 1), (1, 2)], [2, 0, 2]), ([2, 3, 2], [(0, 1), (1, 2)], [0, 2, 0]),
        ):
            with self.subTest(row=row, ties=ties):
                self.assertEqual(self.told(row, ties), looked_for)

    def test_it_shows_the_greatest_table(self):
        for row, ties in itertools.chain(small_cases(), great_cases()):
            with soon():
                table = greatest(row, ties)
            self.assertTrue(shown(row, ties, table, self.told(row, ties)))


class TestShow(unittest.TestCase):
    def test_written_ones(self):
        for row, ties, stakes, cover, looked_for in (
            ([], None, [], [], True), ([4], None, [[0]], [0], True), ([4], None, [[0]], [1], False),
            ([0], None, [[0]], [1], True), ([1, 1], None, [[0, 2], [2, 0]], [1, 1], True),
            ([1, 1], None, [[0, 2], [2, 0]], [2, 0], True), ([1, 1], None, [[0, 2], [2, 0]], [2, 1], False),
            ([1, 1], None, [[0, 1], [1, 0]], [1, 1], False), ([1, 1], None, [[0, 1], [1, 0]], [1, 0], False),
            ([1, 1], [], [[0, 0], [0, 0]], [0, 0], True), ([1, 1], [], [[0, 2], [2, 0]], [1, 1], False),
            ([1, 1], None, [[0, 3], [1, 0]], [1, 1], False), ([1, 1], None, [[2, 0], [0, 2]], [1, 1], False),
            ([1, 1], None, [[0, -2], [6, 0]], [1, 1], False), ([0, 0], None, [[0, 0], [0, 0]], [0, 1], False),
            ([1, 3], None, [[0, 4], [4, 0]], [1, 1], False),
        ):
            with self.subTest(row=row, ties=ties, stakes=stakes, cover=cover):
                self.assertIs(answered(self, show, row, ties, stakes, cover), looked_for)

    def test_a_greatest_table_and_its_cover(self):
        for row, ties in great_cases():
            with soon():
                self.assertIs(answered(self, show, row, ties, greatest(row, ties), best_cover(row, ties)), True)

    def test_one_to_three_places_changed(self):
        chance = random.Random(124)
        told = []
        for row, ties in tie_cases(125, range(1, 7), (1, 2, 9), rounds=12):
            with soon():
                stakes, cover = greatest(row, ties), best_cover(row, ties)
            for places in range(chance.randint(1, 3)):
                self.change(chance, stakes, cover)
            looked_for = shown(row, ties, stakes, cover)
            told.append(looked_for)
            with self.subTest(row=row, ties=ties, stakes=stakes, cover=cover):
                self.assertIs(answered(self, show, row, ties, stakes, cover), looked_for)
        self.assertGreater(told.count(True), 20)
        self.assertGreater(told.count(False), 20)

    def change(self, chance, stakes, cover):
        i, j = chance.randrange(len(cover)), chance.randrange(len(cover))
        if chance.random() < 0.5:
            cover[i] = chance.choice((0, 1, 2))
        else:
            stakes[i][j] += chance.choice((-1, 1))
            stakes[j][i] = chance.choice((stakes[i][j], stakes[j][i]))


class TestBetsOfGreatest(unittest.TestCase):
    """Point [14], for greatest stake tables."""

    def test_each_bet_falls_short_by_less_than_one_unit(self):
        chance = random.Random(141)
        for coins, ties in tie_cases(142, range(13), (1, 40, 10 ** 9, 10 ** 60)):
            tickets = [chance.choice((1, 2, 6, 12, 1000, chance.randint(1, 1000))) for held in coins]
            with soon():
                stakes = greatest(weights(coins, tickets), ties)
            bets = asked(self, bets_of, stakes, tickets)
            self.assertIs(even(bets), True)
            self.assertTrue(all(cost <= held for cost, held in zip(laid(bets, tickets), coins)))
            for i, j in itertools.product(range(len(coins)), repeat=2):
                if i == j:
                    self.assertEqual(bets[i][j], 0)
                else:
                    twice = 2 * math.lcm(tickets[i], tickets[j])
                    self.assertTrue(0 <= stakes[i][j] - bets[i][j] * twice < twice)


if __name__ == "__main__":
    unittest.main()
