"""Points [1], [15], [16] and [23]: outlivers.trees."""

import unittest
from fractions import Fraction

from outlivers import errors
from outlivers.shares import lives, mean, whole
from outlivers.stand import all_tickets, done, drawn_by, living_names, purses
from outlivers.trees import odds_of, tree_of
from tests.helper import FOUR, FULL, TABLE, asked, drawn_stands, is_plain, soon, spoil, stand_behind


def owners_of(stand):
    return [drawn_by(stand, ticket) for ticket in range(all_tickets(stand))]


def struck_one_by_one(stand, strokes):
    """The leaves by the words of point [16], each by strokes struck one by one."""
    owners = owners_of(stand)
    if strokes == 0 or not owners:
        return [((), Fraction(1), purses(stand))]
    leaves = []
    for name in living_names(stand) + [""] * ("" in owners):
        part = Fraction(owners.count(name), len(owners))
        for row, share, coins in struck_one_by_one(done(stand, ("strike", owners.index(name))), strokes - 1):
            leaves.append(((name,) + row, part * share, coins))
    return leaves


def share_of(fraction):
    return (fraction.numerator, fraction.denominator)


class Case(unittest.TestCase):
    def grown(self, stand, strokes):
        """The tree, with what holds for all trees looked at."""
        with soon():
            leaves = tree_of(stand, strokes)
        self.assertIs(type(leaves), list)
        self.assertTrue(is_plain(leaves))
        self.assertEqual([tuple(map(type, leaf)) for leaf in leaves], [(tuple, tuple, list)] * len(leaves))
        self.assertEqual(whole(leaves), (1, 1))
        for at, coins in enumerate(purses(stand)):
            self.assertEqual(mean(leaves, at), (coins, 1))
        for row, share, coins in leaves:
            self.assertEqual(sum(coins), sum(purses(stand)))
        return leaves

    def refused(self, kind, function, *things):
        with self.assertRaises(errors.OutError) as taken:
            function(*things)
        self.assertIs(type(taken.exception), kind)


class TestTree(Case):
    def test_no_stroke(self):
        for tied in (False, True):
            stand, plain = stand_behind(TABLE, 4, tied, FOUR)
            self.assertEqual(self.grown(stand, 0), [((), (1, 1), purses(stand))])

    def test_a_written_one(self):
        deeds = [("join", "ann", 0), ("join", "bob", 1), ("pay", "ann", 30), ("pay", "bob", 20)]
        stand, plain = stand_behind(TABLE, 1, False, deeds)
        self.assertEqual(self.grown(stand, 1), [
            (("ann",), (1, 3), [0, 50]), (("bob",), (1, 2), [50, 0]), (("",), (1, 6), [30, 20]),
        ])
        # Behind one stroke they have 3 and 5 tickets, so bob's 20 coins weigh more than ann's 30: six units of 5 and 3.
        self.assertEqual(self.grown(stand, 2), [
            (("ann", "bob"), (5, 18), [0, 50]), (("ann", ""), (1, 18), [0, 50]),
            (("bob", "ann"), (3, 8), [50, 0]), (("bob", ""), (1, 8), [50, 0]),
            (("", "ann"), (1, 18), [0, 50]), (("", "bob"), (5, 54), [48, 2]), (("", ""), (1, 54), [30, 20]),
        ])

    def test_against_strokes_struck_one_by_one(self):
        for strokes, many in ((1, 60), (2, 25), (3, 8)):
            for stand, plain in drawn_stands(160 + strokes, many, 40):
                looked_for = [(row, share_of(share), coins) for row, share, coins in struck_one_by_one(stand, strokes)]
                self.assertEqual(self.grown(stand, strokes), looked_for)

    def test_twelve_members_and_three_strokes(self):
        for tied in (False, True):
            ties = [("tie", FULL[at - 1][1], FULL[at][1]) for at in range(12)]
            pays = [("pay", row[1], 1000 + at) for at, row in enumerate(FULL)]
            stand, plain = stand_behind([7, 11, 13, 16], 9, tied, FULL + ties + pays)
            leaves = self.grown(stand, 3)
            self.assertEqual(len(leaves), 12 * (11 * 11 + 12) + 12 * 12 + 13)
            self.assertEqual(leaves[0][0], ("a", "bb", "ccc"))
            self.assertEqual(leaves[-1][0], ("", "", ""))

    def test_no_ticket_left(self):
        for tied in (False, True):
            stand, plain = stand_behind(TABLE, 0, tied, [])
            for strokes in range(4):
                self.assertEqual(self.grown(stand, strokes), [((), (1, 1), [])])
            stand, plain = stand_behind(TABLE, 0, tied, [("join", "ann", 0), ("pay", "ann", 9)])
            for strokes in range(1, 4):
                self.assertEqual(self.grown(stand, strokes), [(("ann",), (1, 1), [9])])
            stand = done(stand, ("strike", 0))
            for strokes in range(4):
                self.assertEqual(self.grown(stand, strokes), [((), (1, 1), [9])])

    def test_a_history_that_ends_early(self):
        deeds = [("join", "ann", 0), ("join", "bob", 0), ("pay", "ann", 5), ("pay", "bob", 5)]
        stand, plain = stand_behind([1], 0, False, deeds)
        looked_for = [(("ann", "bob"), (1, 2), [0, 10]), (("bob", "ann"), (1, 2), [10, 0])]
        self.assertEqual(self.grown(stand, 2), looked_for)
        self.assertEqual(self.grown(stand, 3), looked_for)

    def test_blanks_alone(self):
        deeds = [("join", "ann", 0), ("pay", "ann", 9), ("strike", 0)]
        stand, plain = stand_behind(TABLE, 7, True, deeds)
        for strokes in range(4):
            self.assertEqual(self.grown(stand, strokes), [(("",) * strokes, (1, 1), [9])])

    def test_each_list_is_a_new_one(self):
        stand, plain = stand_behind(TABLE, 4, False, FOUR)
        first = tree_of(stand, 2)
        lists = [id(leaf[2]) for leaf in first]
        self.assertEqual(len(lists), len(set(lists)))
        before = asked(self, lambda: tree_of(stand, 2))
        spoil(first)
        self.assertEqual(tree_of(stand, 2), before)

    def test_strokes_out_of_bounds(self):
        for deeds in ([], FOUR):
            stand, plain = stand_behind(TABLE, 0, False, deeds)
            for strokes in (-1, 4, 5, -(10 ** 5000), 10 ** 5000):
                with soon():
                    self.refused(errors.BadStrokes, tree_of, stand, strokes)


class TestOdds(Case):
    def test_written_ones(self):
        deeds = [("join", "ann", 0), ("join", "bob", 1), ("pay", "ann", 30), ("pay", "bob", 20)]
        stand, plain = stand_behind(TABLE, 1, False, deeds)
        self.assertEqual([odds_of(stand, "ann", strokes) for strokes in range(3)], [(1, 1), (2, 3), (17, 72)])
        self.assertEqual([odds_of(stand, "bob", strokes) for strokes in range(3)], [(1, 1), (1, 2), (7, 54)])

    def test_they_are_those_of_the_tree(self):
        for stand, plain in drawn_stands(231, 15, 40):
            for strokes in range(3):
                leaves = struck_one_by_one(stand, strokes)
                for name in plain.names():
                    told = odds_of(stand, name, strokes)
                    alive = sum((share for row, share, coins in leaves if name not in row), Fraction(0))
                    self.assertEqual(told, (0, 1) if name in plain.dead else share_of(alive))
                    self.assertTrue(is_plain(told) and type(told) is tuple)

    def test_three_strokes(self):
        stand, plain = stand_behind(TABLE, 4, True, FOUR)
        for name in ("ann", "bob", "cyd"):
            self.assertEqual(odds_of(stand, name, 3), lives(tree_of(stand, 3), name))
        self.assertEqual(odds_of(stand, "dan", 3), (0, 1))

    def test_a_dead_one_has_none(self):
        stand, plain = stand_behind(TABLE, 4, False, FOUR)
        for strokes in range(4):
            self.assertEqual(odds_of(stand, "dan", strokes), (0, 1))

    def test_refusals(self):
        stand, plain = stand_behind(TABLE, 4, False, FOUR)
        for strokes in (-1, 0, 3, 4):
            self.refused(errors.NoMember, odds_of, stand, "eve", strokes)
            self.refused(errors.NoMember, odds_of, stand, "", strokes)
        for strokes in (-1, 4, 10 ** 5000):
            self.refused(errors.BadStrokes, odds_of, stand, "ann", strokes)
            self.refused(errors.BadStrokes, odds_of, stand, "dan", strokes)


if __name__ == "__main__":
    unittest.main()
