"""Points [1], [2], [17] to [21] and [24]: outlivers.stand."""

import copy
import math
import random
import unittest

from outlivers import errors
from outlivers.stakes import fault, show
from outlivers.stand import (
    all_tickets, bet_table, cover_of, done, drawn_by, first_stand, free_of, free_weights, living_names, member_of,
    purses, shut_names, stakes_of, tickets_with, tied_with, told_bets,
)
from outlivers.strokes import even, gains
from outlivers.wheel import wheel
from tests.helper import (
    BET, FOUR, FULL, MANY, TABLE, Plain, drawn_deed, drawn_opening, drawn_stands, is_plain, refused_cases,
    shut_right, soon, spoil, stand_behind,
)


def seen(stand):
    """All that can be asked, but what hangs on the told bets."""
    names = list(stand.members)
    return {
        "names": names, "living": living_names(stand), "is_tied": stand.bound, "table": stand.rates,
        "blanks": stand.empties, "total": all_tickets(stand), "bets": stand.hands, "strokes": stand.past,
        "age": [member_of(stand, name).years for name in names], "coins": purses(stand),
        "free": [free_of(stand, name) for name in names], "tickets": [tickets_with(stand, name) for name in names],
        "ties": [tied_with(stand, name) for name in names],
    }


def whole_of(stand):
    """What a stand is made of, down to each member."""
    members = [(name, member.years, member.purse, member.alive) for name, member in stand.members.items()]
    return copy.deepcopy((
        stand.rates, stand.empties, stand.bound, members, stand.pairs, stand.hands, stand.past,
    ))


class Case(unittest.TestCase):
    def refused(self, stand, row, name):
        before = whole_of(stand)
        with self.assertRaises(errors.OutError) as taken:
            done(stand, row)
        self.assertEqual(type(taken.exception).__name__, name)
        self.assertEqual(whole_of(stand), before)

    def granted(self, stand, row):
        before = whole_of(stand)
        behind = done(stand, row)
        self.assertEqual(whole_of(stand), before, "the stand ahead was changed")
        return behind


class TestOpening(Case):
    def refused_opening(self, table, blanks, name):
        before = list(table)
        for tied in (False, True):
            with self.assertRaises(errors.OutError) as taken:
                first_stand(table, blanks, tied)
            self.assertEqual(type(taken.exception).__name__, name)
            self.assertEqual(table, before)

    def test_all_within_the_bounds(self):
        for table in ([1], [1000], [1, 1000], [7] * 60, list(range(1, 61))):
            for blanks in (0, 1, 1000):
                for tied in (False, True):
                    self.assertEqual(seen(first_stand(table, blanks, tied)), Plain(table, blanks, tied).seen())

    def test_no_ticket_table(self):
        for table in ([], [1] * 61, [0], [-1], [1001], [1, 0], [0, 1], [5, 1001, 5], [1] * 59 + [0]):
            with self.subTest(table):
                self.refused_opening(table, 4, "BadTable")

    def test_blanks_out_of_bounds(self):
        for blanks in (-1, 1001, -(10 ** 5000), 10 ** 5000):
            self.refused_opening([1], blanks, "BadBlanks")

    def test_the_table_goes_first(self):
        self.refused_opening([], -1, "BadTable")
        self.refused_opening([1001], 1001, "BadTable")

    def test_the_list_handed_in_may_be_changed_behind(self):
        table = [2, 3]
        stand = first_stand(table, 0, False)
        spoil(table)
        self.assertEqual(stand.rates, [2, 3])


class TestRefusals(Case):
    def test_each_alone_and_the_first_of_two(self):
        for tied, ahead, row, words in refused_cases():
            with self.subTest(tied=tied, row=row):
                stand, plain = stand_behind(TABLE, 4, tied, ahead)
                self.refused(stand, row, words[0])

    def test_the_cases_are_what_they_say(self):
        for tied, ahead, row, words in refused_cases():
            with self.subTest(tied=tied, row=row):
                stand, plain = stand_behind(TABLE, 4, tied, ahead)
                self.assertEqual(plain.refusal(row), words[0])
                holding = [name for name, holds in getattr(plain, "of_" + row[0])(*row[1:]) if self.holds(holds)]
                self.assertLessEqual(set(words), set(holding))

    def holds(self, check):
        try:
            return check()
        except (KeyError, ZeroDivisionError):
            # Nothing can be said of the coins of somebody who is no member, or of what a bet costs the dead.
            return False

    def test_every_refusal_of_the_deeds_is_there(self):
        alone = {(row[0], words[0]) for tied, ahead, row, words in refused_cases()}
        plain = Plain(TABLE, 0, True)
        for word, many in (
            ("join", 2), ("pay", 2), ("draw", 2), ("tie", 2), ("untie", 2), ("bet", 3), ("drop", 2), ("blanks", 1),
            ("strike", 1),
        ):
            named = {(word, name) for name, holds in getattr(plain, "of_" + word)(*[""] * many)}
            self.assertLessEqual(named, alone)

    def test_very_great_numbers(self):
        stand, plain = stand_behind(TABLE, 4, False, BET)
        for number in (10 ** 5000, -(10 ** 5000)):
            for row, name in (
                (("join", "eve", number), "BadAge"), (("pay", "ann", number), "BadCoins"),
                (("draw", "ann", number), "BadCoins"), (("bet", "ann", "cyd", number), "BadUnits"),
                (("blanks", number), "BadBlanks"), (("strike", number), "BadTicket"),
            ):
                with soon():
                    self.refused(stand, row, name)


class TestBounds(Case):
    """Numbers at their bounds are granted; those one beyond stand among the refusals."""

    def test_ages(self):
        for age in (0, 1, 98, 99):
            stand = self.granted(first_stand(TABLE, 0, False), ("join", "ann", age))
            self.assertEqual(member_of(stand, "ann").years, age)

    def test_twelve_live(self):
        stand, plain = stand_behind(TABLE, 0, False, FULL)
        self.assertEqual(living_names(stand), MANY)
        self.refused(stand, ("join", "zoe", 0), "Full")
        stand = self.granted(stand, ("strike", 3))
        stand = self.granted(stand, ("join", "zoe", 0))
        self.assertEqual(list(stand.members), MANY + ["zoe"])
        self.assertEqual(living_names(stand), MANY[:1] + MANY[2:] + ["zoe"])
        self.refused(stand, ("join", "yan", 0), "Full")

    def test_payments(self):
        stand, plain = stand_behind(TABLE, 0, False, [("join", "ann", 0)])
        for coins, looked_for in ((1, 1), (1000000, 1000001), (999999, 2000000)):
            stand = self.granted(stand, ("pay", "ann", coins))
            self.assertEqual(purses(stand), [looked_for])

    def test_drawings(self):
        deeds = [("join", "ann", 0)] + [("pay", "ann", 1000000)] * 1001
        stand, plain = stand_behind(TABLE, 0, False, deeds)
        self.refused(stand, ("draw", "ann", 1000000001), "BadCoins")
        stand = self.granted(stand, ("draw", "ann", 1000000000))
        self.assertEqual(purses(stand), [1000000])
        self.refused(stand, ("draw", "ann", 1000001), "Short")
        stand = self.granted(stand, ("draw", "ann", 1))
        stand = self.granted(stand, ("draw", "ann", 999999))
        self.assertEqual(purses(stand), [0])
        self.refused(stand, ("draw", "ann", 1), "Short")

    def test_units(self):
        deeds = [("join", "ann", 0), ("join", "bob", 0), ("pay", "ann", 1000000), ("pay", "bob", 1000000)]
        stand, plain = stand_behind(TABLE, 0, False, deeds)
        for units in (1, 1000000):
            behind = self.granted(stand, ("bet", "ann", "bob", units))
            self.assertEqual([free_of(behind, name) for name in ("ann", "bob")], [1000000 - units] * 2)

    def test_blanks(self):
        for blanks in (0, 1, 1000, 7):
            stand = self.granted(first_stand(TABLE, 5, False), ("blanks", blanks))
            self.assertEqual((stand.empties, all_tickets(stand)), (blanks, blanks))

    def test_tickets(self):
        stand, plain = stand_behind(TABLE, 4, False, FOUR)
        self.assertEqual(all_tickets(stand), 17)
        self.assertEqual(self.granted(stand, ("strike", 0)).past[-1][:3], (0, 17, "ann"))
        self.assertEqual(self.granted(stand, ("strike", 16)).past[-1][:3], (16, 17, ""))


class TestHands(Case):
    def test_what_a_bet_holds(self):
        stand, plain = stand_behind(TABLE, 4, False, FOUR)
        coins = dict(zip(stand.members, purses(stand)))
        self.assertEqual([tickets_with(stand, name) for name in stand.members], [3, 5, 5, 0])
        stand = self.granted(stand, ("bet", "ann", "bob", 10))
        self.assertEqual(free_of(stand, "ann"), coins["ann"] - 50)
        self.assertEqual(free_of(stand, "bob"), coins["bob"] - 30)
        stand = self.granted(stand, ("bet", "cyd", "bob", 7))
        self.assertEqual(free_of(stand, "bob"), coins["bob"] - 37)
        self.assertEqual(free_of(stand, "cyd"), coins["cyd"] - 7)
        self.assertEqual(purses(stand), list(coins.values()))
        self.assertEqual(stand.hands, [("ann", "bob", 10), ("cyd", "bob", 7)])
        stand = self.granted(stand, ("drop", "bob", "ann"))
        self.assertEqual(free_of(stand, "ann"), coins["ann"])
        self.assertEqual(free_of(stand, "bob"), coins["bob"] - 7)
        self.assertEqual(stand.hands, [("cyd", "bob", 7)])

    def test_just_what_is_free_and_one_more(self):
        for tied in (False, True):
            for first, second in (("ann", "bob"), ("bob", "ann")):
                for short in ("ann", "bob"):
                    ahead = FOUR + [("pay", "ann", 10000), ("pay", "bob", 10000)]
                    stand, plain = stand_behind(TABLE, 4, tied, ahead)
                    cost = {"ann": 5, "bob": 3}[short]
                    stand = self.granted(stand, ("draw", short, free_of(stand, short) - 20 * cost))
                    behind = self.granted(stand, ("bet", first, second, 20))
                    self.assertEqual(free_of(behind, short), 0)
                    self.refused(behind, ("draw", short, 1), "Short")
                    self.refused(stand, ("bet", first, second, 21), "Short")
                    stand = self.granted(stand, ("draw", short, 1))
                    self.refused(stand, ("bet", first, second, 20), "Short")

    def test_the_dead_ones_purse_is_free(self):
        stand, plain = stand_behind(TABLE, 0, False, [("join", "ann", 0), ("pay", "ann", 9), ("strike", 1)])
        self.assertEqual((living_names(stand), free_of(stand, "ann")), ([], 9))
        stand = self.granted(stand, ("draw", "ann", 9))
        self.refused(stand, ("draw", "ann", 1), "Short")

    def test_ties_either_way_round(self):
        for one, other in (("ann", "bob"), ("bob", "ann")):
            for tied in (False, True):
                stand, plain = stand_behind(TABLE, 4, tied, FOUR)
                self.assertEqual([tied_with(stand, name) for name in stand.members], [["bob"], ["ann"], [], []])
                stand = self.granted(stand, ("tie", "cyd", "ann"))
                self.assertEqual(tied_with(stand, "ann"), ["bob", "cyd"])
                stand = self.granted(stand, ("untie", one, other))
                self.assertEqual([tied_with(stand, name) for name in stand.members], [["cyd"], [], ["ann"], []])

    def test_nobody_is_told_of_who_is_no_member(self):
        stand, plain = stand_behind(TABLE, 4, False, FOUR)
        for ask in (member_of, free_of, tickets_with):
            for name in ("eve", "", "an", "anna"):
                with self.assertRaises(errors.NoMember):
                    ask(stand, name)


class TestStakes(Case):
    def told_right(self, stand, plain):
        """The stakes, the cover, the names that shut and the told bets by the words of point [19]."""
        row, ties, living = plain.weights(), plain.tied_places(), plain.living()
        stakes = stakes_of(stand)
        self.assertTrue(is_plain(stakes))
        self.assertEqual(free_weights(stand), row)
        self.assertIsNone(fault(row, ties, stakes))
        self.assertTrue(show(row, ties, stakes, cover_of(stand)))
        if not plain.tied:
            self.assertEqual(stakes, wheel(row))
        shut_right(self, shut_names(stand), row, ties, living, stakes)
        tickets = [plain.tickets(name) for name in living]
        told = []
        for i, one in enumerate(living):
            for j in range(i + 1, len(living)):
                units = stakes[i][j] // (2 * math.lcm(tickets[i], tickets[j]))
                if units:
                    told.append((one, living[j], units))
        self.assertEqual(told_bets(stand), told)
        bets = bet_table(stand)
        self.assertTrue(even(bets))
        self.assertEqual(gains(bets, tickets), [0] * len(living))

    def test_nobody(self):
        for tied in (False, True):
            for blanks in (0, 5):
                stand, plain = stand_behind(TABLE, blanks, tied, [])
                self.told_right(stand, plain)
                self.assertEqual((stakes_of(stand), cover_of(stand), told_bets(stand)), ([], [], []))
                self.assertIsNone(shut_names(stand))

    def test_one_alone(self):
        for tied in (False, True):
            stand, plain = stand_behind(TABLE, 0, tied, [("join", "ann", 0)])
            self.told_right(stand, plain)
            self.assertIsNone(shut_names(stand))
            stand, plain = stand_behind(TABLE, 0, tied, [("join", "ann", 0), ("pay", "ann", 1)])
            self.told_right(stand, plain)
            self.assertEqual(shut_names(stand), ["ann"])

    def test_written_ones(self):
        deeds = [("join", "ann", 0), ("join", "bob", 1), ("pay", "ann", 30), ("pay", "bob", 20)]
        stand, plain = stand_behind(TABLE, 0, False, deeds)
        self.assertEqual(free_weights(stand), [60, 60])
        self.assertEqual(stakes_of(stand), [[0, 120], [120, 0]])
        self.assertEqual(told_bets(stand), [("ann", "bob", 10)])
        self.assertIsNone(shut_names(stand))
        stand, plain = stand_behind(TABLE, 0, True, deeds)
        self.assertEqual(stakes_of(stand), [[0, 0], [0, 0]])
        self.assertEqual(told_bets(stand), [])
        self.assertEqual(shut_names(stand), ["ann", "bob"])
        stand = self.granted(stand, ("tie", "bob", "ann"))
        self.assertEqual(stakes_of(stand), [[0, 120], [120, 0]])
        self.assertEqual(told_bets(stand), [("ann", "bob", 10)])

    def test_bets_by_hand_lessen_them(self):
        deeds = [("join", "ann", 0), ("join", "bob", 1), ("pay", "ann", 30), ("pay", "bob", 20), ("tie", "ann", "bob")]
        for tied in (False, True):
            stand, plain = stand_behind(TABLE, 0, tied, deeds + [("bet", "bob", "ann", 4)])
            self.assertEqual(free_weights(stand), [36, 36])
            self.assertEqual(told_bets(stand), [("ann", "bob", 6)])
            self.told_right(stand, plain)

    def test_they_do_not_hang_on_the_blanks(self):
        for stand, plain in drawn_stands(191, 10, 40):
            first = [ask(stand) for ask in (stakes_of, cover_of, told_bets, shut_names)]
            for blanks in (0, 1, 1000):
                other = self.granted(stand, ("blanks", blanks))
                self.assertEqual([ask(other) for ask in (stakes_of, cover_of, told_bets, shut_names)], first)

    def test_drawn_stands(self):
        for stand, plain in drawn_stands(192, 120, 60):
            with soon():
                self.told_right(stand, plain)


class TestStrokes(Case):
    def test_a_written_one(self):
        deeds = [
            ("join", "ann", 0), ("join", "bob", 1), ("join", "cyd", 2), ("pay", "ann", 30), ("pay", "bob", 20),
            ("pay", "cyd", 12), ("tie", "bob", "ann"), ("tie", "bob", "cyd"), ("bet", "bob", "ann", 4),
        ]
        # Free coins 18, 12 and 12 weigh 36, 36 and 60: arcs of 72, 72 and 120 on a ring of 264.
        stand, plain = stand_behind(TABLE, 3, False, deeds)
        self.assertEqual(stakes_of(stand), [[0, 12, 60], [12, 0, 60], [60, 60, 0]])
        self.assertEqual(told_bets(stand), [("ann", "bob", 1), ("ann", "cyd", 3), ("bob", "cyd", 2)])
        behind = self.granted(stand, ("strike", 2))
        self.assertEqual(purses(behind), [40, 0, 22])
        self.assertEqual(behind.past, [(2, 13, "bob", (("ann", 10), ("cyd", 10)))])
        self.assertEqual([member_of(behind, name).years for name in behind.members], [1, 1, 3])
        self.assertEqual([tied_with(behind, name) for name in behind.members], [[], [], []])
        self.assertEqual((behind.hands, living_names(behind)), ([], ["ann", "cyd"]))
        behind = self.granted(stand, ("strike", 10))
        self.assertEqual(purses(behind), [30, 20, 12])
        self.assertEqual(behind.past, [(10, 13, "", ())])
        self.assertEqual([member_of(behind, name).years for name in behind.members], [1, 2, 3])
        self.assertEqual([tied_with(behind, name) for name in behind.members], [["bob"], ["ann", "cyd"], ["bob"]])
        self.assertEqual(behind.hands, [])

    def firsts(self, plain):
        """The first and the last ticket of each living member and of the blanks."""
        owners = plain.owners()
        ends = [at for at in range(len(owners)) if owners[at] not in owners[at + 1:at + 2]]
        return sorted({owners.index(owners[at]) for at in ends} | set(ends))

    def test_every_owner_in_drawn_stands(self):
        for stand, plain in drawn_stands(201, 60, 60):
            told = told_bets(stand)
            for ticket in self.firsts(plain):
                self.assertEqual(drawn_by(stand, ticket), plain.owners()[ticket])
                behind, looked_for = self.granted(stand, ("strike", ticket)), copy.deepcopy(plain)
                looked_for.do(("strike", ticket), told)
                self.assertEqual(seen(behind), looked_for.seen())
                self.assertTrue(is_plain(behind.past))
                self.assertEqual(sum(purses(behind)), sum(purses(stand)))
                self.assertGreaterEqual(min(purses(behind), default=0), 0)

    def test_the_mean_over_all_tickets_is_what_there_was(self):
        for stand, plain in drawn_stands(202, 60, 60):
            before, owners = purses(stand), plain.owners()
            together = [0] * len(before)
            for name in plain.living() + [""] * (plain.blanks > 0):
                behind = purses(done(stand, ("strike", owners.index(name))))
                for at, coins in enumerate(behind):
                    together[at] += owners.count(name) * coins
            if owners:
                self.assertEqual(together, [len(owners) * coins for coins in before])

    def test_no_ticket_left(self):
        stand, plain = stand_behind(TABLE, 0, False, [("join", "ann", 0), ("pay", "ann", 9), ("strike", 0)])
        self.assertEqual((all_tickets(stand), purses(stand)), (0, [9]))
        self.assertEqual(stand.past, [(0, 2, "ann", ())])
        self.refused(stand, ("strike", 0), "BadTicket")
        with self.assertRaises(errors.BadTicket):
            drawn_by(stand, 0)

    def test_blanks_alone(self):
        stand, plain = stand_behind(TABLE, 2, True, [("strike", 1), ("strike", 0)])
        self.assertEqual(stand.past, [(1, 2, "", ()), (0, 2, "", ())])
        self.refused(stand, ("strike", 2), "BadTicket")

    def test_whoever_joins_late_is_as_young_as_told(self):
        deeds = [("join", "ann", 0), ("strike", 2), ("strike", 3), ("join", "bob", 0)]
        stand, plain = stand_behind(TABLE, 1, False, deeds)
        self.assertEqual(seen(stand), plain.seen())
        self.assertEqual([member_of(stand, name).years for name in ("ann", "bob")], [2, 0])
        self.assertEqual([tickets_with(stand, name) for name in ("ann", "bob")], [5, 2])


class TestRows(Case):
    def test_drawn_deeds(self):
        chance = random.Random(211)
        met = set()
        for time in range(60):
            opening = drawn_opening(chance)
            stand, plain = first_stand(*opening), Plain(*opening)
            for step in range(80):
                row = drawn_deed(chance, plain)
                name = plain.refusal(row)
                met.add((row[0], name))
                if name is not None:
                    self.refused(stand, row, name)
                else:
                    plain.do(row, told_bets(stand))
                    stand = self.granted(stand, row)
                self.assertEqual(seen(stand), plain.seen())
        # Deeds that are nearly all refused would show little.
        self.assertLessEqual({(word, None) for word, name in met}, met)
        self.assertGreater(len(met), 30)


if __name__ == "__main__":
    unittest.main()
