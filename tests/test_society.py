"""Points [1], [2], [7], [10] to [14] and [16] to [24]: outlivers.society."""

import copy
import math
import random
import unittest
from fractions import Fraction

from outlivers.pages import page
from outlivers.shares import lives, mean, whole
from outlivers.society import Society, opened
from outlivers.stakes import fault, show
from outlivers.strokes import even, gains
from outlivers.wheel import wheel
from tests.helper import (
    BET, FOUR, FULL, TABLE, Plain, Refusing, all_asked, drawn_deed, drawn_opening, drawn_society, is_plain, lists_in,
    plain_seen, refused_cases, shut_right, soon, spoil, stepped, told_or_refused,
)

METHODS = {
    "join": "join", "pay": "pay", "draw": "draw", "tie": "tie", "untie": "untie", "bet": "bet", "drop": "drop",
    "blanks": "set_blanks", "strike": "strike",
}
GREAT = 10 ** 5000


def by_method(society, row):
    return getattr(society, METHODS[row[0]])(*row[1:])


def by_names(society, row):
    """By the names of the arguments, as the interface tells them."""
    names = {
        "join": "name age", "pay": "name coins", "draw": "name coins", "tie": "one other", "untie": "one other",
        "bet": "one other units", "drop": "one other", "blanks": "many", "strike": "ticket",
    }
    return getattr(society, METHODS[row[0]])(**dict(zip(names[row[0]].split(), row[1:])))


class TestOpening(Refusing):
    def test_all_within_the_bounds(self):
        for table in ([1], [1000], [1, 1000], [7] * 60):
            for blanks in (0, 1, 1000):
                for tied in (False, True):
                    for society in (Society(table, blanks, tied), opened(table, blanks, tied, [])):
                        self.assertEqual(plain_seen(society), Plain(table, blanks, tied).seen())
                        self.assertEqual(society.deeds(), [])
                        self.assertIs(society.is_tied(), tied)

    def test_by_the_names_of_the_arguments(self):
        self.assertEqual(all_asked(Society(table=[3], blanks=2, tied=True)), all_asked(Society([3], 2, True)))
        told = opened(table=[3], blanks=2, tied=True, deeds=[("blanks", 1)])
        self.assertEqual(told.deeds(), [("blanks", 1)])

    def test_no_ticket_table(self):
        for table in ([], [1] * 61, [0], [-1], [1001], [1, 0], [0, 1], [5, 1001, 5], [1] * 59 + [0], [GREAT], [-GREAT]):
            for blanks in (0, -1, 1001):
                for tied in (False, True):
                    self.refused("BadTable", Society, table, blanks, tied)
                    self.refused("BadTable", opened, table, blanks, tied, [("strike", -1)])

    def test_blanks_out_of_bounds(self):
        for blanks in (-1, 1001, GREAT, -GREAT):
            for tied in (False, True):
                self.refused("BadBlanks", Society, [1], blanks, tied)
                self.refused("BadBlanks", opened, [1], blanks, tied, [("strike", -1)])

    def test_the_first_deed_that_is_refused(self):
        for tied, ahead, row, words in refused_cases():
            self.refused(words[0], opened, TABLE, 4, tied, ahead + [row])
            self.refused(words[0], opened, TABLE, 4, tied, ahead + [row, ("strike", -1), ("pay", "zoe", 0)])

    def test_opened_with_deeds(self):
        for tied in (False, True):
            one, other = Society(TABLE, 4, tied), opened(TABLE, 4, tied, BET)
            for row in BET:
                one.deed(row)
            self.assertEqual(all_asked(one), all_asked(other))
            self.assertEqual(other.deeds(), BET)
            self.assertEqual(len(stepped(other, "back")), len(BET))
            self.refused_in(other, "NothingLeft", other.again)

    def test_lists_handed_in_may_be_changed_behind(self):
        table, deeds = list(TABLE), list(BET)
        society, other = Society(table, 4, True), opened(table, 4, True, deeds)
        before = all_asked(society), all_asked(other)
        spoil(table)
        spoil(deeds)
        self.assertEqual((all_asked(society), all_asked(other)), before)
        self.assertEqual((society.table(), other.deeds()), (TABLE, BET))


class TestRefusals(Refusing):
    def test_each_alone_and_the_first_of_two(self):
        for tied, ahead, row, words in refused_cases():
            with self.subTest(tied=tied, row=row):
                society = opened(TABLE, 4, tied, ahead)
                self.refused_in(society, words[0], society.deed, row)
                self.refused(words[0], lambda: by_method(society, row))
                self.refused(words[0], lambda: by_names(society, row))
                self.assertEqual(society.deeds(), ahead)

    def test_what_was_taken_back_can_still_be_done_again(self):
        for tied, ahead, row, words in refused_cases():
            society = opened(TABLE, 4, tied, ahead + [("blanks", 9), ("strike", 0)])
            looked_for = all_asked(society)
            society.back()
            society.back()
            self.refused_in(society, words[0], society.deed, row)
            society.again()
            society.again()
            self.assertEqual(all_asked(society), looked_for)

    def test_who_is_no_member(self):
        society = opened(TABLE, 4, True, BET)
        for name in ("eve", "", "an", "anna", "Ann", "a" * 9):
            for ask in (society.age, society.coins, society.free, society.tickets, society.ties):
                self.refused("NoMember", ask, name)
            for strokes in (0, 3, -1, 4):
                self.refused("NoMember", society.odds, name, strokes)
        self.assertEqual(society.deeds(), BET)

    def test_strokes_out_of_bounds(self):
        for deeds in ([], BET):
            society = opened(TABLE, 4, False, deeds)
            for strokes in (-1, 4, GREAT, -GREAT):
                self.refused_in(society, "BadStrokes", society.tree, strokes)
                for name in society.names():
                    self.refused("BadStrokes", society.odds, name, strokes)

    def test_tickets_that_are_none(self):
        for blanks in (0, 4):
            for deeds, many in (([], 0), ([("join", "ann", 1)], 3), (FOUR, 13)):
                society = opened(TABLE, 4, False, deeds + [("blanks", blanks)])
                self.assertEqual(society.total(), many + blanks)
                for ticket in (-1, many + blanks, many + blanks + 1, GREAT, -GREAT):
                    for ask in (society.who, society.behind, society.strike):
                        self.refused_in(society, "BadTicket", ask, ticket)


class TestDeeds(Refusing):
    def test_methods_and_tuples_do_the_same(self):
        for tied in (False, True):
            for do in (by_method, by_names, lambda society, row: society.deed(row)):
                society, plain = Society(TABLE, 4, tied), Plain(TABLE, 4, tied)
                rows = BET + [
                    ("tie", "bob", "cyd"), ("bet", "cyd", "bob", 2), ("drop", "bob", "ann"), ("untie", "bob", "ann"),
                    ("draw", "ann", 3), ("draw", "dan", 1), ("blanks", 2), ("strike", 14), ("strike", 0),
                ]
                for row in rows:
                    plain.do(row, society.told())
                    told = do(society, row)
                    self.assertEqual(told, plain.strokes[-1][2] if row[0] == "strike" else None)
                    self.assertEqual(plain_seen(society), plain.seen())
                self.assertEqual(society.deeds(), rows)
                self.assertTrue(all(type(row) is tuple for row in society.deeds()))

    def test_who_died_is_told(self):
        society = opened(TABLE, 4, False, FOUR)
        self.assertEqual([society.who(ticket) for ticket in (0, 2, 3, 8, 13, 16)], ["ann", "ann", "bob", "cyd", "", ""])
        self.assertEqual(society.strike(16), "")
        self.assertEqual(society.deed(("strike", 0)), "ann")

    def test_the_behind_is_that_of_the_stroke(self):
        chance = random.Random(2001)
        for time in range(30):
            society, plain = drawn_society(chance, 60)
            for ticket in {0, society.total() // 2, society.total() - 1} & set(range(society.total())):
                before = all_asked(society, 0)
                told, name = society.behind(ticket), society.who(ticket)
                self.assertEqual(all_asked(society, 0), before)
                self.assertEqual(society.strike(ticket), name)
                self.assertEqual([society.coins(member) for member in society.names()], told)
                society.back()
                self.assertEqual(all_asked(society, 0), before)


class TestBackAndAgain(Refusing):
    def test_nothing_left(self):
        society = Society(TABLE, 4, False)
        self.refused_in(society, "NothingLeft", society.back)
        self.refused_in(society, "NothingLeft", society.again)
        society.join("ann", 0)
        self.refused_in(society, "NothingLeft", society.again)
        self.assertIsNone(society.back())
        self.refused_in(society, "NothingLeft", society.back)
        self.assertIsNone(society.again())
        self.refused_in(society, "NothingLeft", society.again)
        self.assertEqual(society.deeds(), [("join", "ann", 0)])

    def test_another_deed_leaves_nothing_to_do_again(self):
        society = opened(TABLE, 4, False, FOUR)
        society.back()
        society.back()
        society.set_blanks(4)
        self.refused("NothingLeft", society.again)
        self.assertEqual(society.deeds(), FOUR[:-2] + [("blanks", 4)])

    def test_the_last_first(self):
        society = opened(TABLE, 4, False, FOUR)
        for many in range(len(FOUR) - 1, -1, -1):
            society.back()
            self.assertEqual(society.deeds(), FOUR[:many])
        for many in range(1, len(FOUR) + 1):
            society.again()
            self.assertEqual(society.deeds(), FOUR[:many])

    def test_each_deed_taken_back_is_as_if_never_done(self):
        for tied in (False, True):
            rows = BET + [
                ("pay", "cyd", 1), ("draw", "bob", 4), ("tie", "cyd", "ann"), ("untie", "cyd", "ann"),
                ("drop", "bob", "ann"), ("untie", "bob", "ann"), ("blanks", 1000), ("strike", 1000), ("strike", 5),
                ("join", "eve", 99),
            ]
            society = Society(TABLE, 4, tied)
            for row in rows:
                before = all_asked(society)
                society.deed(row)
                behind = all_asked(society)
                society.back()
                self.assertEqual(all_asked(society), before)
                society.again()
                self.assertEqual(all_asked(society), behind)

    def test_drawn_rows_asked_and_not_asked_between(self):
        chance = random.Random(2202)
        for time in range(25):
            self.walk(chance, drawn_opening(chance), 50)

    def walk(self, chance, opening, steps):
        """A row of deeds, takings back and doings again, beside what is kept plainly and what is never asked."""
        society, silent = Society(*opening), Society(*opening)
        done, undone, plains = [], [], [Plain(*opening)]
        for step in range(steps):
            move = chance.choice(["deed"] * 7 + ["back", "back", "again"])
            if move == "deed":
                row = drawn_deed(chance, plains[-1])
                name = plains[-1].refusal(row)
                if name is None:
                    plains.append(copy.deepcopy(plains[-1]))
                    plains[-1].do(row, society.told())
                    done.append(row)
                    undone = []
                told = plains[-1].strokes[-1][2] if name is None and row[0] == "strike" else name
                self.assertEqual([told_or_refused(one.deed, row) for one in (society, silent)], [told, told])
            elif move == "back":
                left = bool(done)
                if left:
                    undone.append((done.pop(), plains.pop()))
                self.all_step((society, silent), move, left)
            else:
                left = bool(undone)
                if left:
                    row, plain = undone.pop()
                    done.append(row)
                    plains.append(plain)
                self.all_step((society, silent), move, left)
            self.assertEqual(plain_seen(society), plains[-1].seen())
            self.assertEqual(society.deeds(), done)
            if step % 10 == 0:
                self.alike(society, society.twin(), opened(*opening, done))
        self.alike(society, silent, opened(*opening, done))
        self.assertEqual(stepped(silent, "again"), stepped(society, "again"))

    def all_step(self, societies, move, left):
        for society in societies:
            self.assertEqual(told_or_refused(getattr(society, move)), None if left else "NothingLeft")

    def alike(self, society, *others):
        looked_for = all_asked(society), stepped(society, "back")
        for other in others:
            self.assertEqual((all_asked(other), stepped(other, "back")), looked_for)


class TestTwin(Refusing):
    def test_alike_in_all(self):
        chance = random.Random(2203)
        for time in range(15):
            society, plain = drawn_society(chance, 40)
            for step in range(min(3, len(society.deeds()))):
                society.back()
            twin = society.twin()
            self.assertIsInstance(twin, Society)
            self.assertEqual(all_asked(twin, 2), all_asked(society, 2))
            for step in ("back", "again"):
                self.assertEqual(stepped(twin, step), stepped(society, step))
            self.assertEqual(page(twin), page(society))

    def test_what_is_done_to_one_is_not_done_to_the_other(self):
        for tied in (False, True):
            society = opened(TABLE, 4, tied, BET + [("blanks", 7)])
            society.back()
            before = all_asked(society), stepped(society, "back"), stepped(society, "again")
            for change in (
                lambda one: one.back(), lambda one: one.again(), lambda one: one.set_blanks(3),
                lambda one: one.strike(0), lambda one: one.join("eve", 4), lambda one: one.pay("ann", 5),
                lambda one: one.draw("bob", 5), lambda one: one.drop("ann", "bob"), lambda one: one.tie("ann", "cyd"),
            ):
                twin = society.twin()
                change(twin)
                self.assertNotEqual(all_asked(twin), before[0])
                self.assertEqual((all_asked(society), stepped(society, "back"), stepped(society, "again")), before)
                twin, other = society.twin(), society.twin()
                change(other)
                self.assertEqual((all_asked(twin), stepped(twin, "back"), stepped(twin, "again")), before)

    def test_a_twin_of_a_twin_outlives_both(self):
        society = opened(TABLE, 4, False, FOUR)
        twin = society.twin().twin()
        before = all_asked(society)
        for step in FOUR:
            society.back()
        self.assertEqual(all_asked(twin), before)


class TestLists(Refusing):
    def asks(self, society):
        """Each way to ask for something that bears lists."""
        for word in "deeds names living table bets weights stakes cover shut told strokes".split():
            yield word, getattr(society, word)
        for name in society.names():
            yield f"ties of {name}", lambda name=name: society.ties(name)
        for ticket in range(society.total()):
            yield f"behind {ticket}", lambda ticket=ticket: society.behind(ticket)
        for strokes in range(3):
            yield f"tree of {strokes}", lambda strokes=strokes: society.tree(strokes)

    def test_every_told_list_is_a_new_one(self):
        for tied in (False, True):
            society = opened(TABLE, 4, tied, BET + [("tie", "cyd", "bob")])
            before = all_asked(society, 2)
            for word, ask in self.asks(society):
                with self.subTest(word):
                    first, second = ask(), ask()
                    self.assertEqual(first, second)
                    self.assertTrue(is_plain(first))
                    ours = [id(one) for one in lists_in(first) + lists_in(second)]
                    self.assertEqual(len(ours), len(set(ours)))
                    spoil(first)
                    spoil(second)
                    self.assertEqual(all_asked(society, 2), before)
                    self.assertEqual(all_asked(society.twin(), 2), before)

    def test_kinds(self):
        society = opened(TABLE, 4, True, BET + [("tie", "cyd", "bob"), ("strike", 14), ("bet", "bob", "cyd", 1)])
        for word in "deeds names living table bets weights stakes cover shut told strokes".split():
            self.assertIs(type(getattr(society, word)()), list, word)
        for word in "blanks total".split():
            self.assertIs(type(getattr(society, word)()), int)
        for name in society.names():
            for word in "age coins free tickets".split():
                self.assertIs(type(getattr(society, word)(name)), int)
        for word in "deeds bets told strokes".split():
            self.assertEqual({type(row) for row in getattr(society, word)()}, {tuple})
        self.assertEqual({type(paid) for *rest, paid in society.strokes()}, {tuple})
        self.assertIs(type(society.is_tied()), bool)
        self.assertTrue(is_plain([part for word, part in all_asked(society).items() if word != "is_tied"]))


class TestStakes(Refusing):
    def test_told_bets(self):
        chance = random.Random(1901)
        for time in range(80):
            society, plain = drawn_society(chance, 80)
            with self.subTest(time=time), soon():
                self.told_right(society, plain)

    def told_right(self, society, plain):
        row, ties, living = society.weights(), plain.tied_places(), society.living()
        stakes, tickets = society.stakes(), [society.tickets(name) for name in living]
        self.assertEqual(row, plain.weights())
        self.assertIsNone(fault(row, ties, stakes))
        self.assertTrue(show(row, ties, stakes, society.cover()))
        if ties is None:
            self.assertEqual(stakes, wheel(row))
        shut_right(self, society.shut(), row, ties, living, stakes)
        bets = [[0] * len(living) for name in living]
        order = []
        for one, other, units in society.told():
            i, j = living.index(one), living.index(other)
            order.append((i, j))
            self.assertGreater(units, 0)
            bets[i][j] = bets[j][i] = units
        self.assertEqual(order, sorted(set(order)))
        self.assertTrue(all(i < j for i, j in order))
        self.assertTrue(even(bets))
        self.assertEqual(gains(bets, tickets), [0] * len(living))
        for i, j in [(i, j) for i in range(len(living)) for j in range(len(living)) if i != j]:
            weight = 2 * math.lcm(tickets[i], tickets[j])
            self.assertLessEqual(weight * bets[i][j], stakes[i][j])
            self.assertGreater(weight * (bets[i][j] + 1), stakes[i][j])

    def test_fair_at_every_stroke(self):
        chance = random.Random(1902)
        for time in range(50):
            society, plain = drawn_society(chance, 80)
            before = [society.coins(name) for name in society.names()]
            together = [0] * len(before)
            parts = {name: society.tickets(name) for name in society.living()}
            ticket = 0
            for part in list(parts.values()) + [society.blanks()]:
                if part:
                    behind = society.behind(ticket)
                    self.assertEqual(sum(behind), sum(before))
                    self.assertGreaterEqual(min(behind, default=0), 0)
                    together = [sums + part * coins for sums, coins in zip(together, behind)]
                ticket += part
            self.assertEqual(together, [society.total() * coins for coins in before])

    def test_they_turn_with_every_purse_tie_bet_and_death(self):
        society = opened([1], 0, True, [("join", name, 0) for name in ("ann", "bob", "cyd")])
        self.assertEqual(society.told(), [])
        for name in ("ann", "bob", "cyd"):
            society.pay(name, 10)
        self.assertEqual((society.told(), society.shut()), ([], ["ann", "bob", "cyd"]))
        society.tie("bob", "ann")
        self.assertEqual(society.told(), [("ann", "bob", 10)])
        self.assertEqual(society.shut(), ["cyd"])
        society.tie("bob", "cyd")
        society.tie("ann", "cyd")
        self.assertIsNone(society.shut())
        self.assertEqual(society.told(), [("ann", "bob", 5), ("ann", "cyd", 5), ("bob", "cyd", 5)])
        society.bet("ann", "cyd", 10)
        self.assertEqual((society.told(), society.shut()), ([], ["bob"]))
        society.drop("cyd", "ann")
        society.pay("bob", 10)
        self.assertEqual(society.told(), [("ann", "bob", 10), ("bob", "cyd", 10)])
        society.strike(1)
        self.assertEqual([society.coins(name) for name in society.names()], [20, 0, 20])
        self.assertEqual(society.told(), [("ann", "cyd", 20)])
        self.assertEqual(society.ties("bob"), [])

    def test_they_do_not_hang_on_the_blanks(self):
        chance = random.Random(1903)
        for time in range(20):
            society, plain = drawn_society(chance, 60)
            first = [society.stakes(), society.cover(), society.told(), society.shut()]
            for blanks in (0, 1, 1000):
                society.set_blanks(blanks)
                self.assertEqual([society.stakes(), society.cover(), society.told(), society.shut()], first)


class TestTrees(Refusing):
    def leaves(self, society, strokes):
        """The leaves by strokes struck one by one in twins."""
        if strokes == 0 or society.total() == 0:
            return [((), Fraction(1), [society.coins(name) for name in society.names()])]
        found = []
        ticket = 0
        for name in society.living() + [""]:
            part = society.tickets(name) if name else society.blanks()
            if part:
                twin = society.twin()
                self.assertEqual(twin.strike(ticket), name)
                for row, share, coins in self.leaves(twin, strokes - 1):
                    found.append(((name,) + row, Fraction(part, society.total()) * share, coins))
            ticket += part
        return found

    def test_drawn_societies(self):
        chance = random.Random(2301)
        for strokes, many in ((0, 10), (1, 30), (2, 12), (3, 4)):
            for time in range(many):
                society, plain = drawn_society(chance, 40)
                before = all_asked(society, 0)
                with soon():
                    told = society.tree(strokes)
                found = self.leaves(society, strokes)
                self.assertEqual(told, [(row, (s.numerator, s.denominator), coins) for row, s, coins in found])
                self.assertEqual(whole(told), (1, 1))
                for at, name in enumerate(society.names()):
                    self.assertEqual(mean(told, at), (society.coins(name), 1))
                    alive = name in society.living()
                    self.assertEqual(society.odds(name, strokes), lives(told, name) if alive else (0, 1))
                self.assertEqual(all_asked(society, 0), before)

    def test_no_living_members(self):
        for blanks in (0, 3):
            society = opened(TABLE, blanks, False, [("join", "ann", 0), ("pay", "ann", 9), ("strike", 0)])
            for strokes in range(4):
                row = ("",) * strokes if blanks else ()
                self.assertEqual(society.tree(strokes), [(row, (1, 1), [9])])
                self.assertEqual(society.odds("ann", strokes), (0, 1))

    def test_twelve_members(self):
        deeds = FULL + [("pay", row[1], 10 ** 6 - at) for at, row in enumerate(FULL)]
        deeds += [("tie", FULL[at][1], FULL[at - 1][1]) for at in range(12)]
        for tied in (False, True):
            society = opened(list(range(1000, 940, -1)), 1000, tied, deeds)
            with soon():
                told = society.tree(3)
            self.assertEqual(whole(told), (1, 1))
            self.assertEqual([mean(told, at) for at in (0, 11)], [(10 ** 6, 1), (10 ** 6 - 11, 1)])
            self.assertEqual(society.odds("a", 3), lives(told, "a"))


class TestStrokes(Refusing):
    def test_they_are_kept(self):
        society = opened([2], 1, False, [("join", "ann", 0), ("join", "bob", 0), ("join", "cyd", 0)])
        for name, coins in (("ann", 4), ("bob", 4), ("cyd", 8)):
            society.pay(name, coins)
        self.assertEqual(society.strokes(), [])
        society.strike(6)
        society.strike(4)
        self.assertEqual(society.strokes(), [(6, 7, "", ()), (4, 7, "cyd", (("ann", 4), ("bob", 4)))])
        society.draw("bob", 8)
        society.strike(0)
        self.assertEqual(society.strokes()[2:], [(0, 5, "ann", ())])
        society.back()
        self.assertEqual(len(society.strokes()), 2)

    def test_many_deeds_are_done_and_taken_back_soon(self):
        with soon():
            society = opened([1], 1, True, [("join", "ann", 0)])
            for time in range(3000):
                society.pay("ann", 1000)
            for time in range(3000):
                society.strike(1)
            for time in range(6000):
                society.back()
            for time in range(6000):
                society.again()
        self.assertEqual((society.age("ann"), society.coins("ann")), (3000, 3000000))


if __name__ == "__main__":
    unittest.main()
