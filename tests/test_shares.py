"""Points [15] and [16]: outlivers.shares."""

import itertools
import random
import unittest
from fractions import Fraction

from outlivers.shares import added, lives, lowest, mean, times, whole
from tests.helper import asked, soon

GREAT = 10 ** 3000
TREE = [
    (("ann", "bob"), (2, 15), [0, 0, 9]),
    (("ann", "anna"), (1, 5), [0, 9, 0]),
    (("bob", "ann"), (1, 10), [1, 0, 8]),
    (("bob", ""), (1, 4), [4, 0, 5]),
    (("", "bob"), (1, 12), [3, 2, 4]),
    (("", ""), (7, 30), [3, 3, 3]),
]


def share_of(fraction):
    return (fraction.numerator, fraction.denominator)


def some_shares(seed):
    """Shares in lowest terms: nought, small and very great ones."""
    chance = random.Random(seed)
    fractions = [Fraction(0), Fraction(1), Fraction(1, 2), Fraction(7, 3), Fraction(GREAT, 7), Fraction(3, GREAT)]
    for most in (9, 1000, 10 ** 40, GREAT):
        fractions += [Fraction(chance.randint(0, most), chance.randint(1, most)) for time in range(4)]
    return [share_of(fraction) for fraction in fractions]


def drawn_leaves(chance, strokes, most):
    """Leaves as point [16] writes them, in their order; their shares needn't come to the whole."""
    leaves = []
    for row in itertools.product(["a", "b", "ab", "c", ""], repeat=strokes):
        share = share_of(Fraction(chance.randint(0, 50), chance.randint(1, 50)))
        leaves.append((row, share, [chance.randint(0, most) for member in range(3)]))
    return leaves


def reckoned(leaves, value):
    return share_of(sum((Fraction(*share) * value(row, purses) for row, share, purses in leaves), Fraction(0)))


class TestLowest(unittest.TestCase):
    def told(self, above, below):
        with soon():
            share = asked(self, lowest, above, below)
        self.assertIs(type(share), tuple)
        return share

    def test_nought(self):
        for below in (1, 2, 7, 1000, GREAT):
            self.assertEqual(self.told(0, below), (0, 1))

    def test_small_ones(self):
        for above in range(30):
            for below in range(1, 30):
                self.assertEqual(self.told(above, below), share_of(Fraction(above, below)))

    def test_written_ones(self):
        for above, below, looked_for in (
            (1, 1, (1, 1)), (6, 4, (3, 2)), (4, 6, (2, 3)), (12, 4, (3, 1)), (5, 5, (1, 1)), (1000, 1, (1000, 1)),
        ):
            self.assertEqual(self.told(above, below), looked_for)

    def test_very_great_ones(self):
        self.assertEqual(self.told(6 * GREAT, 4 * GREAT), (3, 2))
        self.assertEqual(self.told(GREAT, GREAT), (1, 1))
        self.assertTrue(self.told(GREAT, 1) == (GREAT, 1))
        self.assertTrue(self.told(1, GREAT) == (1, GREAT))
        self.assertTrue(self.told(GREAT, GREAT + 1) == (GREAT, GREAT + 1))
        self.assertTrue(self.told(6 ** 3000, 10 ** 3000) == (3 ** 3000, 5 ** 3000))


class TestTwoShares(unittest.TestCase):
    def test_added(self):
        for one, other, looked_for in (
            ((0, 1), (0, 1), (0, 1)), ((0, 1), (2, 3), (2, 3)), ((1, 2), (1, 2), (1, 1)), ((1, 6), (1, 3), (1, 2)),
            ((3, 4), (5, 6), (19, 12)), ((2, 1), (5, 1), (7, 1)),
        ):
            self.assertEqual(asked(self, added, one, other), looked_for)

    def test_times(self):
        for one, other, looked_for in (
            ((0, 1), (0, 1), (0, 1)), ((0, 1), (2, 3), (0, 1)), ((1, 2), (1, 2), (1, 4)), ((2, 3), (3, 2), (1, 1)),
            ((3, 4), (5, 6), (5, 8)), ((2, 1), (5, 1), (10, 1)), ((1, 1), (4, 7), (4, 7)),
        ):
            self.assertEqual(asked(self, times, one, other), looked_for)

    def test_small_and_very_great_ones(self):
        for one, other in itertools.product(some_shares(151), repeat=2):
            with soon():
                together = asked(self, added, one, other)
                product = asked(self, times, one, other)
            self.assertIs(type(together), tuple)
            self.assertIs(type(product), tuple)
            self.assertTrue(together == share_of(Fraction(*one) + Fraction(*other)))
            self.assertTrue(product == share_of(Fraction(*one) * Fraction(*other)))


class TestLeaves(unittest.TestCase):
    def test_no_leaves(self):
        self.assertEqual(asked(self, whole, []), (0, 1))
        self.assertEqual(asked(self, mean, [], 0), (0, 1))
        self.assertEqual(asked(self, mean, [], 5), (0, 1))
        self.assertEqual(asked(self, lives, [], "ann"), (0, 1))

    def test_no_strokes(self):
        leaves = [((), (1, 1), [3, 0])]
        self.assertEqual(asked(self, whole, leaves), (1, 1))
        self.assertEqual(asked(self, mean, leaves, 0), (3, 1))
        self.assertEqual(asked(self, mean, leaves, 1), (0, 1))
        self.assertEqual(asked(self, lives, leaves, "ann"), (1, 1))

    def test_whole(self):
        self.assertEqual(asked(self, whole, TREE), (1, 1))
        self.assertEqual(asked(self, whole, TREE[:2]), (1, 3))
        self.assertEqual(asked(self, whole, TREE + TREE), (2, 1))

    def test_mean(self):
        self.assertEqual(asked(self, mean, TREE, 0), (41, 20))
        self.assertEqual(asked(self, mean, TREE, 1), (8, 3))
        self.assertEqual(asked(self, mean, TREE, 2), (257, 60))

    def test_lives(self):
        self.assertEqual(asked(self, lives, TREE, "ann"), (17, 30))
        self.assertEqual(asked(self, lives, TREE, "bob"), (13, 30))
        self.assertEqual(asked(self, lives, TREE, "carl"), (1, 1))

    def test_a_part_of_a_name_is_another_name(self):
        self.assertEqual(asked(self, lives, TREE, "an"), (1, 1))
        self.assertEqual(asked(self, lives, TREE, "anna"), (4, 5))
        self.assertEqual(asked(self, lives, [(("ab",), (1, 2), [])], "b"), (1, 2))

    def test_all_dead(self):
        self.assertEqual(asked(self, lives, [(("ann",), (1, 1), [5])], "ann"), (0, 1))

    def test_very_great_coins(self):
        leaves = [(("a",), (1, 3), [GREAT, 0]), (("b",), (2, 3), [0, GREAT])]
        with soon():
            self.assertTrue(asked(self, mean, leaves, 0) == share_of(Fraction(GREAT, 3)))
            self.assertTrue(asked(self, mean, leaves, 1) == share_of(Fraction(2 * GREAT, 3)))

    def test_drawn_leaves(self):
        chance = random.Random(161)
        for strokes in range(4):
            for most in (0, 5, 10 ** 9, 10 ** 100):
                leaves = drawn_leaves(chance, strokes, most)
                with soon():
                    self.assertEqual(asked(self, whole, leaves), reckoned(leaves, lambda row, purses: 1))
                    for at in range(3):
                        looked_for = reckoned(leaves, lambda row, purses: purses[at])
                        self.assertEqual(asked(self, mean, leaves, at), looked_for)
                    for name in ("a", "b", "ab", "c", "d", ""):
                        looked_for = reckoned(leaves, lambda row, purses: 0 if name in row else 1)
                        self.assertEqual(asked(self, lives, leaves, name), looked_for)


if __name__ == "__main__":
    unittest.main()
