"""Points [2] and [27]: outlivers.house."""

import random
import unittest

from outlivers.house import House
from outlivers.pages import page
from outlivers.society import Society, opened
from tests.helper import (
    BET, FOUR, TABLE, Plain, Refusing, all_asked, all_in, drawn_deed, drawn_opening, refused_cases, spoil, stepped,
    told_or_refused,
)

BAD_NAMES = ("", "Club", "club1", "my club", "abcdefghi", "c\n", "-")
GREAT = 10 ** 5000


def built(*rows):
    """A house of societies opened with TABLE and 4 blanks: (name, tied, deeds)."""
    house = House()
    for name, tied, deeds in rows:
        house.open_one(name, TABLE, 4, tied)
        for row in deeds:
            house.deed(name, row)
    return house


class Case(Refusing):
    def refused_here(self, house, name, function, *things):
        before = all_in(house)
        told = self.refused(name, function, *things)
        self.assertEqual(all_in(house), before)
        return told


class TestOpen(Case):
    def test_names_in_the_order_in_which_they_came(self):
        house = House()
        self.assertEqual(house.names(), [])
        for name in ("zoo", "a", "abcdefgh"):
            self.assertIsNone(house.open_one(name, [5], 0, False))
        self.assertEqual(house.names(), ["zoo", "a", "abcdefgh"])
        spoil(house.names())
        self.assertEqual(house.names(), ["zoo", "a", "abcdefgh"])

    def test_two_houses_share_nothing(self):
        one, other = House(), House()
        one.open_one("club", [5], 0, False)
        self.assertEqual((one.names(), other.names()), (["club"], []))

    def test_what_is_opened(self):
        house, table = House(), list(TABLE)
        for name, tied in (("free", False), ("tied", True)):
            house.open_one(name=name, table=table, blanks=4, tied=tied)
            self.assertEqual(all_asked(house.view(name)), all_asked(Society(TABLE, 4, tied)))
        spoil(table)
        self.assertEqual([house.view(name).table() for name in house.names()], [TABLE, TABLE])

    def test_refusals(self):
        house = built(("club", False, FOUR), ("other", True, BET))
        for name in BAD_NAMES:
            for table, blanks in ((TABLE, 4), ([], 4), (TABLE, -1)):
                self.refused_here(house, "BadName", house.open_one, name, table, blanks, True)
        for name in ("club", "other"):
            for table, blanks in ((TABLE, 4), ([], 4), (TABLE, 1001)):
                self.refused_here(house, "Known", house.open_one, name, table, blanks, True)
        for table in ([], [0], [1001], [1] * 61):
            for blanks in (0, -1, 1001):
                self.refused_here(house, "BadTable", house.open_one, "new", table, blanks, True)
        for blanks in (-1, 1001, GREAT):
            self.refused_here(house, "BadBlanks", house.open_one, "new", TABLE, blanks, False)


class TestRead(Case):
    def test_a_page(self):
        house = built(("club", False, FOUR))
        society = opened(TABLE, 4, True, BET)
        self.assertIsNone(house.read("new", page(society)))
        self.assertEqual(house.names(), ["club", "new"])
        self.assertEqual(house.page("new"), page(society))
        self.assertEqual(all_asked(house.view("new")), all_asked(society))
        self.refused_here(house, "NothingLeft", house.again, "new")
        house.read(name="newer", text="society free 0 1")
        self.assertEqual(house.page(name="newer"), "society free 0 1")

    def test_refusals(self):
        house = built(("club", False, FOUR))
        for text in ("society free 0 1", "", "society free 0 1\n"):
            for name in BAD_NAMES:
                self.refused_here(house, "BadName", house.read, name, text)
            self.refused_here(house, "Known", house.read, "club", text)
        first = "society free 0 1\n"
        for text, row in (("", 0), ("society free 0 0", 0), (first, 1), (first + "strike 0", 1), (first * 2, 1)):
            self.assertEqual(self.refused_here(house, "NoPage", house.read, "new", text).row, row)


class TestCopy(Case):
    def test_a_twin_under_another_name(self):
        house = built(("club", True, BET), ("other", False, []))
        house.back("club")
        self.assertIsNone(house.copy_one(name="club", other="copy"))
        self.assertEqual(house.names(), ["club", "other", "copy"])
        told = all_in(house)
        self.assertEqual(told[1][1:], told[3][1:])
        house.again("copy")
        self.assertEqual(house.view("copy").deeds(), BET)
        self.assertEqual(house.view("club").deeds(), BET[:-1])
        house.deed("club", ("strike", 0))
        self.assertEqual(house.view("copy").deeds(), BET)

    def test_refusals(self):
        house = built(("club", True, BET), ("other", False, []))
        for name in BAD_NAMES + ("clu", "clubs"):
            for other in ("new", "Bad", "club", name):
                self.refused_here(house, "NoSociety", house.copy_one, name, other)
        for other in BAD_NAMES:
            self.refused_here(house, "BadName", house.copy_one, "club", other)
        for other in ("club", "other"):
            self.refused_here(house, "Known", house.copy_one, "club", other)


class TestClose(Case):
    def test_its_name_is_free_then(self):
        house = built(("club", True, []), ("other", False, FOUR))
        self.assertIsNone(house.close(name="club"))
        self.assertEqual(house.names(), ["other"])
        self.refused_here(house, "NoSociety", house.view, "club")
        house.open_one("club", [9], 1, False)
        self.assertEqual(house.names(), ["other", "club"])
        self.assertEqual(house.page("club"), "society free 1 9")

    def test_members_without_coins(self):
        deeds = [("join", "ann", 0), ("pay", "ann", 5), ("draw", "ann", 5), ("join", "bob", 0), ("strike", 0)]
        house = built(("club", True, deeds))
        house.close("club")
        self.assertEqual(house.names(), [])

    def test_coins_of_the_living_and_of_the_dead(self):
        living = [("join", "ann", 0), ("join", "bob", 0), ("pay", "bob", 1)]
        dead = [("join", "ann", 0), ("pay", "ann", 1), ("strike", 0)]
        house = built(("living", True, living), ("dead", False, dead))
        for name in ("living", "dead"):
            self.refused_here(house, "Holding", house.close, name)
        house.deed("dead", ("draw", "ann", 1))
        house.deed("living", ("draw", "bob", 1))
        house.close("dead")
        house.close("living")
        self.assertEqual(house.names(), [])

    def test_no_society(self):
        house = built(("club", True, BET))
        for name in BAD_NAMES + ("other",):
            self.refused_here(house, "NoSociety", house.close, name)


class TestMove(Case):
    def two(self):
        house = built(("club", False, BET), ("other", True, FOUR), ("third", False, []))
        for name in ("club", "other"):
            house.deed(name, ("blanks", 9))
            house.back(name)
        return house

    def test_a_deed_of_each_of_the_two(self):
        house = self.two()
        third = all_asked(house.view("third"))
        before = house.view("club").coins("ann"), house.view("other").coins("ann")
        self.assertIsNone(house.move(name="club", other="other", member="ann", coins=7))
        self.assertEqual(house.view("club").deeds(), BET + [("draw", "ann", 7)])
        self.assertEqual(house.view("other").deeds(), FOUR + [("pay", "ann", 7)])
        self.assertEqual(house.view("club").coins("ann"), before[0] - 7)
        self.assertEqual(house.view("other").coins("ann"), before[1] + 7)
        for name in ("club", "other"):
            self.refused_here(house, "NothingLeft", house.again, name)
        self.assertEqual(all_asked(house.view("third")), third)
        house.back("other")
        self.assertEqual(house.view("other").coins("ann"), before[1])
        self.assertEqual(house.view("club").coins("ann"), before[0] - 7)

    def test_all_that_is_free_and_one_more(self):
        house = self.two()
        free = house.view("club").free("ann")
        self.assertLess(free, house.view("club").coins("ann"))
        self.refused_here(house, "Short", house.move, "club", "other", "ann", free + 1)
        house.move("club", "other", "ann", free)
        self.assertEqual(house.view("club").free("ann"), 0)
        self.refused_here(house, "Short", house.move, "club", "other", "ann", 1)

    def test_the_dead_ones_purse(self):
        house = built(("club", False, [("join", "ann", 0), ("pay", "ann", 9), ("strike", 0)]), ("other", True, FOUR))
        house.move("club", "other", "ann", 9)
        self.assertEqual(house.view("club").coins("ann"), 0)
        house.close("club")

    def test_refusals(self):
        house = self.two()
        for name, other, member, coins, word in (
            ("x", "y", "ann", 1, "NoSociety"), ("x", "x", "ann", 1, "NoSociety"), ("club", "x", "ann", 1, "NoSociety"),
            ("x", "club", "ann", 1, "NoSociety"), ("club", "", "eve", 0, "NoSociety"),
            ("Club", "club", "", 0, "NoSociety"),
            ("club", "club", "ann", 1, "Same"), ("club", "club", "eve", 0, "Same"), ("third", "third", "", -1, "Same"),
            ("club", "other", "eve", 1, "NoMember"), ("club", "other", "eve", 0, "NoMember"),
            ("third", "club", "ann", 1, "NoMember"), ("club", "other", "", 1, "NoMember"),
            ("club", "third", "ann", 0, "BadCoins"), ("club", "other", "ann", -1, "BadCoins"),
            ("club", "third", "ann", 10 ** 9 + 1, "BadCoins"), ("club", "other", "dan", 0, "BadCoins"),
            ("club", "third", "ann", 10 ** 9, "Short"), ("club", "other", "dan", 99, "Short"),
            ("club", "other", "ann", 10 ** 6 + 1, "Short"),
            ("club", "third", "ann", 1, "NoMember"), ("other", "club", "dan", 1, "Dead"),
        ):
            with self.subTest(name=name, other=other, member=member, coins=coins):
                self.refused_here(house, word, house.move, name, other, member, coins)

    def test_more_than_a_payment_may_be(self):
        house = self.two()
        for step in range(3):
            house.deed("club", ("pay", "ann", 10 ** 6))
        self.refused_here(house, "BadCoins", house.move, "club", "other", "ann", 10 ** 6 + 1)
        self.refused_here(house, "NoMember", house.move, "club", "third", "ann", 10 ** 6 + 1)
        house.move("club", "other", "ann", 10 ** 6)
        self.assertEqual(house.view("other").deeds()[-1], ("pay", "ann", 10 ** 6))

    def test_what_was_taken_back_stays_behind_a_refusal(self):
        house = self.two()
        self.refused_here(house, "Dead", house.move, "other", "club", "dan", 1)
        self.refused_here(house, "Short", house.move, "club", "other", "ann", 10 ** 6)
        for name in ("club", "other"):
            house.again(name)
            self.assertEqual(house.view(name).blanks(), 9)


class TestDeeds(Case):
    def test_what_the_society_tells(self):
        house = built(("club", False, FOUR))
        self.assertIsNone(house.deed("club", ("pay", "ann", 5)))
        self.assertEqual(house.deed("club", ("strike", 16)), "")
        self.assertEqual(house.deed(name="club", row=("strike", 0)), "ann")
        self.assertIsNone(house.back(name="club"))
        self.assertIsNone(house.again(name="club"))
        self.assertEqual(house.view("club").deeds(), FOUR + [("pay", "ann", 5), ("strike", 16), ("strike", 0)])

    def test_refusals_of_the_deeds(self):
        for tied, ahead, row, words in refused_cases():
            house = built(("club", tied, ahead), ("other", tied, FOUR))
            self.refused_here(house, words[0], house.deed, "club", row)
            self.refused_here(house, "NoSociety", house.deed, "clubs", row)

    def test_no_society_goes_first(self):
        house = built(("club", False, FOUR))
        for name in BAD_NAMES + ("other",):
            for function in (house.view, house.page, house.back, house.again):
                self.refused_here(house, "NoSociety", function, name)

    def test_nothing_left(self):
        house = built(("club", False, []), ("other", False, FOUR))
        self.refused_here(house, "NothingLeft", house.back, "club")
        self.refused_here(house, "NothingLeft", house.again, "club")
        self.refused_here(house, "NothingLeft", house.again, "other")

    def test_a_view_is_a_twin(self):
        house = built(("club", True, BET))
        house.back("club")
        before = all_in(house)
        for change in (
            lambda one: one.back(), lambda one: one.again(), lambda one: one.strike(0), lambda one: one.pay("ann", 1),
        ):
            view = house.view(name="club")
            self.assertIsInstance(view, Society)
            change(view)
            self.assertEqual(all_in(house), before)
        view = house.view("club")
        house.deed("club", ("strike", 0))
        self.assertEqual(view.deeds(), BET[:-1])


class TestHouses(Case):
    def test_nothing_done_in_one_is_seen_in_another(self):
        chance = random.Random(2701)
        for time in range(10):
            self.walk(chance, ["one", "two", "three"][:chance.choice((2, 3))])

    def walk(self, chance, names):
        """Deeds, moves, takings back and doings again, each society beside one that is alone."""
        house, alone, plains = House(), {}, {}
        for name in names:
            opening = drawn_opening(chance)
            house.open_one(name, *opening)
            alone[name], plains[name] = Society(*opening), Plain(*opening)
            for member in ("ann", "bob", "cyd"):
                for row in (("join", member, 1), ("pay", member, 5000)):
                    self.do(house, alone, plains, name, row)
        for step in range(60):
            name = chance.choice(names)
            move = chance.choice(["deed"] * 6 + ["move", "move", "back", "again"])
            if move == "deed":
                self.do(house, alone, plains, name, drawn_deed(chance, plains[name]))
            elif move == "move":
                self.move(chance, house, alone, plains, name, chance.choice(names))
            else:
                told = told_or_refused(getattr(alone[name], move))
                self.assertEqual(told_or_refused(getattr(house, move), name), told)
                plains[name] = self.kept_plainly(alone[name])
            for one in names:
                self.assertEqual(house.page(one), page(alone[one]))
        for one in names:
            self.assertEqual(all_asked(house.view(one)), all_asked(alone[one]))
            self.assertEqual(stepped(house.view(one), "again"), stepped(alone[one], "again"))
        self.assertEqual(house.names(), names)

    def do(self, house, alone, plains, name, row):
        told = told_or_refused(alone[name].deed, row)
        self.assertEqual(told_or_refused(house.deed, name, row), told)
        plains[name] = self.kept_plainly(alone[name])

    def move(self, chance, house, alone, plains, name, other):
        member, coins = chance.choice(("ann", "bob", "cyd", "eve")), chance.choice((0, 1, 100, 3000, 10 ** 6 + 1))
        word = "Same" if name == other else plains[name].refusal(("draw", member, coins))
        word = word or plains[other].refusal(("pay", member, coins))
        self.assertEqual(told_or_refused(house.move, name, other, member, coins), word)
        if word is None:
            alone[name].draw(member, coins)
            alone[other].pay(member, coins)
        for one in (name, other):
            plains[one] = self.kept_plainly(alone[one])

    def kept_plainly(self, society):
        """The same society kept plainly, by its deeds."""
        first = society.twin()
        while first.deeds():
            first.back()
        plain = Plain(first.table(), first.blanks(), first.is_tied())
        for row in society.deeds():
            plain.do(row, first.told())
            first.deed(row)
        return plain


if __name__ == "__main__":
    unittest.main()
