"""Point [28]: outlivers.lines, and what a house says."""

import random
import re
import unittest

from outlivers import errors
from outlivers.house import House
from outlivers.pages import page
from tests.helper import TABLE, Refusing, all_in, drawn_society, refused_cases, soon

SIGNS = [sign for sign in map(chr, range(32, 127)) if sign != "%"]

# Lines in a row, each with its very answer.
TALK = """
names -> none
open club free 4 2 3 5 -> opened
names -> club
living club -> none
told club -> none
bets club -> none
shut club -> none
total club -> 4
who club 0 -> nobody
who club 4 -> no BadTicket
in club join ann 0 -> done
in club join bob 1 -> done
in club join cyd 2 -> done
living club -> ann bob cyd
total club -> 14
who club 0 -> ann
who club 1 -> ann
who club 2 -> bob
who club 9 -> cyd
who club 10 -> nobody
who club 13 -> nobody
in club pay ann 30 -> done
shut club -> ann
in club pay bob 20 -> done
shut club -> none
told club -> ann bob 10
in club pay cyd 12 -> done
in club bet bob ann 4 -> done
bets club -> bob ann 4
told club -> ann bob 1; ann cyd 3; bob cyd 2
in club bet cyd ann 1 -> done
bets club -> bob ann 4; cyd ann 1
coins club ann -> 30
free club ann -> 13
free club bob -> 12
free club cyd -> 10
age club cyd -> 2
in club drop ann cyd -> done
in club tie ann bob -> done
in club untie bob ann -> no Standing
in club tie bob cyd -> done
in club untie bob cyd -> done
odds club ann 0 -> 1 1
odds club ann 1 -> 6 7
odds club cyd 1 -> 9 14
odds club bob 4 -> no BadStrokes
copy club other -> copied
names -> club other
in club strike 2 -> died bob
living club -> ann cyd
coins club ann -> 40
coins club bob -> 0
coins club cyd -> 22
free club bob -> 0
age club ann -> 1
age club bob -> 1
odds club bob 3 -> 0 1
bets club -> none
bets other -> bob ann 4
coins other bob -> 20
back club -> back
bets club -> bob ann 4
living club -> ann bob cyd
again club -> again
living club -> ann cyd
again club -> no NothingLeft
in club strike 11 -> nobody
age club ann -> 2
in club blanks 0 -> done
total club -> 10
in club blanks 1000 -> done
total club -> 1010
move club other bob 1 -> no Short
move other club bob 1 -> no Dead
move club other ann 40 -> moved
coins club ann -> 0
coins other ann -> 70
close club -> no Holding
in club draw cyd 22 -> done
close club -> closed
names -> other
living club -> no NoSociety
open club tied 0 1 -> opened
names -> other club
in club join ann 99 -> done
in club pay ann 1 -> done
in club join bob 99 -> done
shut club -> ann
in club pay bob 1 -> done
shut club -> ann bob
told club -> none
in club tie bob ann -> done
shut club -> none
told club -> ann bob 1
in club strike 1 -> died bob
in club strike 0 -> died ann
in club strike 0 -> no BadTicket
living club -> none
coins club ann -> 2
close club -> no Holding
""".strip()

# A house of this is where the lines below are said.
SETTING = """
open club free 4 2 3 5
in club join ann 0
in club join bob 1
in club pay ann 100
in club pay bob 50
in club strike 0
in club join cyd 0
in club pay cyd 9
in club blanks 8
back club
open other tied 0 7
in other join ann 5
""".strip().split("\n")

REFUSED = (
    ("open Club free 0 1", "BadName"), ("open abcdefghi free 0 1", "BadName"), ("open 7 tied 0 1", "BadName"),
    ("open - free 0 0", "BadName"), ("open club free 0 1", "Known"), ("open club free 1001 0", "Known"),
    ("open new free 0 0", "BadTable"), ("open new free 1001 0", "BadTable"), ("open new free 0 1001", "BadTable"),
    ("open new free 0" + " 1" * 61, "BadTable"), ("open new tied 0 5 9999999999", "BadTable"),
    ("open new free 1001 1", "BadBlanks"), ("open new free 9999999999 1", "BadBlanks"),
    ("copy clubs new", "NoSociety"), ("copy Club New", "NoSociety"), ("copy 1 club", "NoSociety"),
    ("copy club New", "BadName"), ("copy club abcdefghi", "BadName"), ("copy club club", "Known"),
    ("copy club other", "Known"), ("close clubs", "NoSociety"), ("close #", "NoSociety"), ("close club", "Holding"),
    ("move clubs other ann 1", "NoSociety"), ("move club others ann 0", "NoSociety"), ("move x x x 0", "NoSociety"),
    ("move club club eve 0", "Same"), ("move club other eve 0", "NoMember"), ("move club other Ann 1", "NoMember"),
    ("move club other ann 0", "BadCoins"), ("move club other ann 1000000001", "BadCoins"),
    ("move club other cyd 10", "Short"), ("move club other cyd 9", "NoMember"), ("in clubs pay ann 0", "NoSociety"),
    ("in Club! strike 0", "NoSociety"), ("back clubs", "NoSociety"), ("again clubs", "NoSociety"),
    ("living clubs", "NoSociety"), ("coins clubs ann", "NoSociety"), ("free clubs ann", "NoSociety"),
    ("age clubs ann", "NoSociety"), ("total clubs", "NoSociety"), ("who clubs 0", "NoSociety"),
    ("told clubs", "NoSociety"), ("bets clubs", "NoSociety"), ("shut clubs", "NoSociety"),
    ("odds clubs eve 4", "NoSociety"), ("coins club eve", "NoMember"), ("free club eve", "NoMember"),
    ("age club Ann", "NoMember"), ("odds club eve 4", "NoMember"), ("odds club 1 1", "NoMember"),
    ("who club 12", "BadTicket"), ("who club 9999999999", "BadTicket"), ("odds club ann 4", "BadStrokes"),
    ("odds club bob 9999999999", "BadStrokes"), ("again other", "NothingLeft"),
)

NO_LINES = (
    "", " ", "  ", "name", "names ", " names", "names club", "Names", "NAMES", "names\n", "no line", "none", "?",
    "open", "open new", "open new free", "open new free 0", "open new free 0 ", "open new free  0 1", "open  free 0 1",
    "open new  free 0 1", " open new free 0 1", "open new free 0 1 ", "open new free 0 1  2", "open new both 0 1",
    "open new Free 0 1", "open new 0 1", "open new free x 1", "open new free 0 x", "open new free 00 1",
    "open new free 0 01", "open new free -1 1", "open new free 0 -1", "open new free 0 1.", "open free 0 1",
    "open new free 10000000000 1", "open new free 0 10000000000", "open new tied free 0 1", "opened new free 0 1",
    "open_one new free 0 1", "copy", "copy club", "copy club ", "copy  new", "copy club new x", "copy club  new",
    "copy_one club new", "close", "close ", "close club other", "close  club", "move", "move club other ann",
    "move club other ann x", "move club other ann -1", "move club other ann 01", "move club other ann 1 ",
    "move club other  1", "move club other ann 1 1", "move club ann 1", "move club other 1 ann",
    "move club other ann 10000000000", "in", "in ", "in club", "in club ", "in  club strike 0", "in club  strike 0",
    "in club strike", "in club strike x", "in club strike -1", "in club strike 00", "in club strike 0 ",
    "in club strike 0 0", "in club strikes 0", "in club join Eve 0", "in club join eve", "in club join abcdefghi 0",
    "in club join eve 1 1", "in club pay ann 10000000000", "in club pay 5 ann", "in club tie ann", "in club back",
    "in club again", "in strike 0", "in  strike 0", "in club names", "in club die ann", "in clubs Join eve 0",
    "in club (strike 0)", "strike 0", "join eve 0", "back", "back ", "back  club", "back club 1", "again",
    "again club club", "living", "living club ann", "living ", "coins club", "coins club ", "coins club ann bob",
    "coins  ann", "coins ann", "free", "free club", "free club ann 1", "age club", "age club ann ", "total",
    "total club 1", "total ", "who club", "who club ann", "who club -1", "who club 00", "who club 0 0", "who 0",
    "who club 10000000000", "told", "told club ann", "bets", "bets club ann", "shut", "shut club ann", "shut ",
    "odds club ann", "odds club 1", "odds club ann x", "odds club ann -1", "odds club ann 01", "odds club ann 1 1",
    "odds club  1", "odds club ann 10000000000", "tickets club ann", "ties club ann", "tree club 1", "page club",
    "view club", "read new x", "weights club", "stakes club", "cover club", "deeds club", "blanks club",
    "behind club 0",
)

NUMBER = "(?:0|[1-9][0-9]{0,9})"
NAME = "[a-z]{1,8}"
DEED = (
    f"(?:(?:join|pay|draw) {NAME} {NUMBER}|(?:tie|untie|drop) {NAME} {NAME}|bet {NAME} {NAME} {NUMBER}"
    f"|(?:blanks|strike) {NUMBER})"
)
FORM = re.compile("|".join((
    f"open [^ ]+ (?:free|tied) {NUMBER}(?: {NUMBER})+", "copy [^ ]+ [^ ]+", f"move [^ ]+ [^ ]+ [^ ]+ {NUMBER}",
    "names",
    "(?:close|back|again|living|total|told|bets|shut) [^ ]+", f"in [^ ]+ {DEED}", "(?:coins|free|age) [^ ]+ [^ ]+",
    f"who [^ ]+ {NUMBER}", f"odds [^ ]+ [^ ]+ {NUMBER}",
)))


def house_of(lines):
    house = House()
    for line in lines:
        answer = house.say(line)
        if answer.startswith("no "):
            raise ValueError(line)
    return house


class Case(Refusing):
    def unchanged(self, house, line, looked_for):
        before = all_in(house)
        told = house.say(line)
        self.assertEqual(told, looked_for)
        self.assertEqual(all_in(house), before)


class TestAnswers(Case):
    def test_lines_in_a_row(self):
        house = House()
        for at, row in enumerate(TALK.split("\n")):
            line, looked_for = row.split(" -> ")
            with self.subTest(at=at, line=line):
                told = house.say(line=line)
                self.assertEqual(told, looked_for)
                self.assertIs(type(told), str)

    def test_every_form_is_in_the_row(self):
        said = {row.split(" -> ")[0].split(" ")[0] for row in TALK.split("\n")}
        words = "open copy close move names in back again living coins free age total who told bets shut odds"
        self.assertEqual(said, set(words.split()))

    def test_what_only_asks_changes_nothing(self):
        for line in (
            "names", "living club", "coins club ann", "free club ann", "age club ann", "total club", "who club 0",
            "told club", "bets club", "shut club", "odds club bob 3", "odds club ann 2",
        ):
            house = house_of(SETTING)
            before = all_in(house)
            self.assertFalse(house.say(line).startswith("no "))
            self.assertEqual(all_in(house), before)

    def test_what_a_drawn_society_tells(self):
        chance = random.Random(2801)
        for time in range(20):
            society, plain = drawn_society(chance, 60)
            house = House()
            house.read("club", page(society))
            for line, looked_for in self.talk_of(society):
                self.assertEqual(house.say(line), looked_for)

    def talk_of(self, society):
        """The lines that tell of a society, with their answers."""
        rows = [("living club", " ".join(society.living()) or "none"), ("total club", str(society.total()))]
        for word in ("told", "bets"):
            bets = [f"{one} {other} {units}" for one, other, units in getattr(society, word)()]
            rows.append((f"{word} club", "; ".join(bets) or "none"))
        rows.append(("shut club", " ".join(society.shut() or []) or "none"))
        for name in society.names():
            for word in ("coins", "free", "age"):
                rows.append((f"{word} club {name}", str(getattr(society, word)(name))))
            above, below = society.odds(name, 1)
            rows.append((f"odds club {name} 1", f"{above} {below}"))
        for ticket in range(0, society.total(), 1 + society.total() // 20):
            rows.append((f"who club {ticket}", society.who(ticket) or "nobody"))
        return rows

    def test_numbers_of_more_than_ten_figures_are_told(self):
        house = house_of(["open club free 0 1", "in club join ann 0"] + ["in club pay ann 1000000"] * 10001)
        self.assertEqual(house.say("coins club ann"), "10001000000")

    def test_members_called_like_the_words_of_answers(self):
        house = house_of(["open none free 0 1", "in none join nobody 0", "in none join none 0", "in none join no 0"])
        self.assertEqual(house.say("names"), "none")
        self.assertEqual(house.say("living none"), "nobody none no")
        self.assertEqual(house.say("who none 1"), "none")
        self.assertEqual(house.say("in none strike 0"), "died nobody")


class TestRefusals(Case):
    def test_every_refusal(self):
        for line, word in REFUSED:
            with self.subTest(line):
                self.unchanged(house_of(SETTING), line, f"no {word}")

    def test_refusals_of_the_deeds(self):
        for tied, ahead, row, words in refused_cases():
            line = " ".join(map(str, ("in", "club") + row))
            if not FORM.fullmatch(line):
                continue
            with self.subTest(tied=tied, line=line):
                house = House()
                house.open_one("club", TABLE, 4, tied)
                for deed in ahead:
                    house.deed("club", deed)
                self.unchanged(house, line, f"no {words[0]}")

    def test_nothing_to_take_back(self):
        house = house_of(["open club free 0 1"])
        self.unchanged(house, "back club", "no NothingLeft")
        self.unchanged(house, "again club", "no NothingLeft")

    def test_every_class_that_a_line_can_meet_is_met(self):
        met = {word for line, word in REFUSED} | {words[0] for tied, ahead, row, words in refused_cases()}
        never = {"OutError", "NoDeed", "NoPage"}
        named = {name for name, one in vars(errors).items() if isinstance(one, type)}
        self.assertEqual(met, named - never)


class TestNoLines(Case):
    def test_written_ones(self):
        for line in NO_LINES:
            with self.subTest(line):
                self.assertIsNone(FORM.fullmatch(line))
                self.unchanged(house_of(SETTING), line, "no line")

    def test_lines_with_one_sign_spoilt(self):
        chance = random.Random(2802)
        lines = [row.split(" -> ")[0] for row in TALK.split("\n")] + [line for line, word in REFUSED]
        none = some = 0
        for line in lines * 25:
            at, sign = chance.randint(0, len(line)), chance.choice(chance.choice((SIGNS, list(" 019az"))))
            other = chance.choice((
                line[:at] + sign + line[at:], line[:at] + line[at + 1:], line[:at] + sign + line[at + 1:],
            ))
            told = house_of(SETTING).say(other)
            if FORM.fullmatch(other):
                some += 1
                self.assertNotEqual(told, "no line", other)
            else:
                none += 1
                self.assertEqual(told, "no line", other)
        self.assertGreater(min(none, some), 500)

    def test_very_long_lines(self):
        house = house_of(SETTING)
        for line, looked_for in (
            ("names" + " " * 10 ** 6, "no line"), ("close " + "a" * 10 ** 6, "no NoSociety"),
            ("who club " + "1" * 10 ** 6, "no line"), ("open new free 0" + " 1" * 10 ** 5, "no BadTable"),
        ):
            with soon():
                self.assertEqual(house.say(line), looked_for)


if __name__ == "__main__":
    unittest.main()
