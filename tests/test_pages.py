"""Points [2], [25] and [26]: outlivers.pages."""

import random
import re
import unittest

from outlivers.pages import deed_of, deed_text, page, society_of
from outlivers.society import Society, opened
from tests.helper import BET, FOUR, TABLE, Refusing, all_asked, asked, drawn_society, refused_cases, soon, stepped

SIGNS = [sign for sign in map(chr, range(32, 127)) if sign != "%"] + ["\n"]
ROWS = (
    ("join ann 0", ("join", "ann", 0)), ("join abcdefgh 99", ("join", "abcdefgh", 99)), ("join z 7", ("join", "z", 7)),
    ("pay bob 1000000", ("pay", "bob", 1000000)), ("draw bob 1000000000", ("draw", "bob", 1000000000)),
    ("tie ann bob", ("tie", "ann", "bob")), ("untie bob ann", ("untie", "bob", "ann")),
    ("bet ann bob 12", ("bet", "ann", "bob", 12)), ("drop ann bob", ("drop", "ann", "bob")),
    ("blanks 0", ("blanks", 0)), ("blanks 1000", ("blanks", 1000)), ("strike 13", ("strike", 13)),
    # What no society would grant is read all the same.
    ("join ann 9999999999", ("join", "ann", 9999999999)), ("pay ann 0", ("pay", "ann", 0)),
    ("draw ann 0", ("draw", "ann", 0)), ("tie ann ann", ("tie", "ann", "ann")),
    ("untie a a", ("untie", "a", "a")), ("bet ann ann 0", ("bet", "ann", "ann", 0)),
    ("bet ann bob 9999999999", ("bet", "ann", "bob", 9999999999)), ("drop a a", ("drop", "a", "a")),
    ("blanks 1001", ("blanks", 1001)), ("strike 9999999999", ("strike", 9999999999)),
    # A name may be any word of small letters, those of the rows too.
    ("join join 1", ("join", "join", 1)), ("tie tie untie", ("tie", "tie", "untie")),
    ("bet strike blanks 1", ("bet", "strike", "blanks", 1)), ("pay society 1", ("pay", "society", 1)),
)
NUMBER = "(?:0|[1-9][0-9]{0,9})"
NAME = "[a-z]{1,8}"
DEED = re.compile(
    f"(?:join|pay|draw) {NAME} {NUMBER}|(?:tie|untie|drop) {NAME} {NAME}|bet {NAME} {NAME} {NUMBER}"
    f"|(?:blanks|strike) {NUMBER}"
)
OPENING = re.compile(f"society (?:free|tied) {NUMBER}(?: {NUMBER})+")
NO_DEEDS = (
    "", " ", "\n", "join", "join ", "join ann", "join ann ", "join ann 0 ", " join ann 0", "join  ann 0", "join ann  0",
    "join ann 0 0", "join ann bob", "join 0 ann", "Join ann 0", "JOIN ann 0", "joins ann 0", "joi ann 0", "join Ann 0",
    "join ann1 0", "join abcdefghi 0", "join ann 00", "join ann 01", "join ann -1", "join ann +1", "join ann 1.0",
    "join ann 10000000000", "join ann 12345678901", "join ann 1_0", "join ann one", "join ann 0\n", "\njoin ann 0",
    "join ann\n0", "join\nann 0", "join ann 0\njoin bob 0", "join\tann 0", "ann 0", "0", "pay ann", "pay 5 ann",
    "draw ann", "draw ann bob 5", "pay ann bob 5", "tie ann", "tie ann bob 1", "tie ann 1", "tie 1 ann", "tie annbob",
    "untie ann", "untie ann bob cyd", "bet ann bob", "bet ann 5 bob", "bet ann bob 1 2", "bet ann bob cyd",
    "bet ann 5", "drop ann", "drop ann bob 5", "blanks", "blanks ", "blanks ann", "blanks 1 2", "blanks -0",
    "set_blanks 5", "strike", "strike 1 2", "strike ann", "strike ann 1", "strikes 1", "back", "again",
    "society free 0 1", "die ann", "move ann bob 1", "(join ann 0)", "'join' ann 0", "join,ann,0", "join ann 0.",
)


def deed_in(text):
    """The deed that a row tells by the form of its signs, or None."""
    if not DEED.fullmatch(text):
        return None
    return tuple(int(word) if word[0] in "0123456789" else word for word in text.split(" "))


def spoilt(chance, text):
    """A text with one sign put in, taken out or put in another one's place."""
    at = chance.randint(0, len(text))
    sign = chance.choice(chance.choice((SIGNS, list(" \n019az"))))
    return chance.choice((text[:at] + sign + text[at:], text[:at] + text[at + 1:], text[:at] + sign + text[at + 1:]))


class TestDeeds(Refusing):
    def test_each_form(self):
        for text, deed in ROWS:
            with self.subTest(text):
                self.assertEqual(asked(self, deed_text, deed), text)
                told = asked(self, deed_of, text)
                self.assertEqual(told, deed)
                self.assertIs(type(told), tuple)

    def test_what_is_no_deed(self):
        for text in NO_DEEDS:
            with self.subTest(text):
                self.refused("NoDeed", deed_of, text)

    def test_rows_with_one_sign_spoilt(self):
        chance = random.Random(2501)
        read = 0
        for text, deed in ROWS * 150:
            other = spoilt(chance, text)
            if deed_in(other) is None:
                self.refused("NoDeed", deed_of, other)
            else:
                read += 1
                self.assertEqual(deed_of(other), deed_in(other))
        self.assertGreater(read, 100)

    def test_every_sign_in_a_name_and_in_a_number(self):
        for sign in SIGNS:
            for form in ("join a{}b 1", "join {} 1", "pay ann 1{}2", "strike {}", "strike 1{}"):
                text = form.format(sign)
                if deed_in(text) is None:
                    self.refused("NoDeed", deed_of, text)
                else:
                    self.assertEqual(deed_of(text), deed_in(text))

    def test_by_the_names_of_the_arguments(self):
        self.assertEqual(deed_text(deed=("blanks", 3)), "blanks 3")
        self.assertEqual(deed_of(text="blanks 3"), ("blanks", 3))

    def test_a_very_long_row(self):
        for text in ("strike " + "1" * 10 ** 6, "join " + "a" * 10 ** 6 + " 1", "join" + " a" * 10 ** 5, " " * 10 ** 6):
            with soon():
                self.refused("NoDeed", deed_of, text)


class TestPage(Refusing):
    def test_sign_by_sign(self):
        self.assertEqual(page(Society([7], 0, False)), "society free 0 7")
        self.assertEqual(page(Society([1, 1000, 30], 1000, True)), "society tied 1000 1 1000 30")
        deeds = FOUR + [
            ("blanks", 900), ("bet", "ann", "bob", 10), ("drop", "bob", "ann"), ("untie", "bob", "ann"),
            ("draw", "dan", 1), ("strike", 900),
        ]
        self.assertEqual(page(opened(TABLE, 4, True, deeds)), "\n".join((
            "society tied 4 2 3 5", "join ann 0", "join bob 1", "join cyd 2", "join dan 0", "pay ann 100",
            "pay bob 200", "pay cyd 50", "pay dan 7", "tie ann bob", "tie dan ann", "strike 10", "blanks 900",
            "bet ann bob 10", "drop bob ann", "untie bob ann", "draw dan 1", "strike 900",
        )))

    def test_the_blanks_are_those_of_the_opening(self):
        society = opened([7], 5, False, [("blanks", 9)])
        self.assertEqual(page(society), "society free 5 7\nblanks 9")

    def test_what_was_taken_back_is_left_out(self):
        society = opened([7], 5, False, [("join", "ann", 1), ("blanks", 9)])
        society.back()
        self.assertEqual(page(society), "society free 5 7\njoin ann 1")
        society.back()
        self.assertEqual(page(society), "society free 5 7")
        society.again()
        self.assertEqual(page(society=society), "society free 5 7\njoin ann 1")

    def test_writing_changes_nothing(self):
        society = opened(TABLE, 4, True, BET)
        society.back()
        before = all_asked(society), stepped(society, "back"), stepped(society, "again")
        page(society)
        self.assertEqual((all_asked(society), stepped(society, "back"), stepped(society, "again")), before)


class TestReading(Refusing):
    def wrong(self, text, row):
        told = self.refused("NoPage", society_of, text)
        self.assertEqual(told.row, row)
        self.assertIs(type(told.row), int)

    def test_read_back(self):
        chance = random.Random(2601)
        for time in range(40):
            society, plain = drawn_society(chance, 60)
            text = page(society)
            told = society_of(text)
            self.assertIsInstance(told, Society)
            self.assertEqual(page(told), text)
            self.assertEqual(all_asked(told), all_asked(society))
            self.assertEqual(stepped(told, "back"), stepped(society, "back"))
            self.refused("NothingLeft", told.again)

    def test_the_first_row(self):
        for text in (
            "society free 0 1", "society tied 1000 1000", "society free 0" + " 7" * 60, "society tied 4 2 3 5",
        ):
            self.assertEqual(page(society_of(text=text)), text)
        for text in (
            "", " ", "\n", "society", "society ", "society free", "society free 0", "society free 0 ", "society 0 1",
            "society open 0 1", "society Free 0 1", "Society free 0 1", "free 0 1", " society free 0 1",
            "society  free 0 1", "society free  0 1", "society free 0  1", "society free 0 1 ", "society free 00 1",
            "society free 0 01", "society free -1 1", "society free 0 -1", "society free x 1", "society free 0 x",
            "society free 0 1 x", "society free 0 1\t", "society freetied 0 1", "society free tied 0 1",
            "society free 1001 1", "society free 0 0", "society free 0 1001", "society free 0 5 0",
            "society free 0" + " 7" * 61, "society free 10000000000 1", "society free 0 10000000000",
            "society free 9999999999 1", "join ann 0", "society tied 0,1", "society True 0 1",
        ):
            with self.subTest(text):
                self.wrong(text, 0)
                self.wrong(text + "\njoin ann 0", 0)
                self.wrong(text + "\n?", 0)

    def test_every_row_spoilt_in_its_turn(self):
        rows = page(opened(TABLE, 4, True, BET)).split("\n")
        for at in range(len(rows)):
            row = rows[at]
            for wrong in ("", "?", row + " ", " " + row, row + " x", row.upper(), "society free 0 1"):
                with self.subTest(at=at, wrong=wrong):
                    if at > 0 or wrong != "society free 0 1":
                        self.wrong("\n".join(rows[:at] + [wrong] + rows[at + 1:]), at)
                        self.wrong("\n".join(rows[:at] + [wrong] + rows[at:]), at)
                        self.wrong("\n".join(rows[:at] + [wrong] + ["?"] + rows[at:]), at)

    def test_no_row_end_behind_the_last(self):
        for deeds in ([], BET):
            text = page(opened(TABLE, 4, True, deeds))
            self.wrong(text + "\n", len(deeds) + 1)
            self.wrong(text + "\n\n", len(deeds) + 1)
            self.wrong("\n" + text, 0)
            self.wrong(text.replace("\n", "\n\n") + "\n", 1)

    def test_deeds_refused_at_their_place(self):
        for tied, ahead, row, words in refused_cases():
            rows = [page(opened(TABLE, 4, tied, ahead)), " ".join(map(str, row))]
            with self.subTest(tied=tied, row=row):
                self.wrong("\n".join(rows), len(ahead) + 1)
                self.wrong("\n".join(rows + ["blanks 3", "?"]), len(ahead) + 1)

    def test_the_same_row_is_right_at_another_place(self):
        text = "society tied 4 2\njoin ann 0\njoin bob 0\n{}pay ann 5\npay bob 5\n{}tie ann bob\n{}strike 7"
        self.wrong(text.format("bet ann bob 1\n", "", ""), 3)
        self.wrong(text.format("", "bet ann bob 1\n", ""), 5)
        self.assertEqual(society_of(text.format("", "", "bet ann bob 1\n")).age("ann"), 1)

    def test_pages_with_one_sign_spoilt(self):
        chance = random.Random(2602)
        read = 0
        for tied in (False, True):
            text = page(opened(TABLE, 4, tied, BET))
            for time in range(800):
                other = spoilt(chance, text)
                row = self.first_wrong(other)
                if row is None:
                    read += 1
                    self.assertEqual(page(society_of(other)), other)
                else:
                    self.wrong(other, row)
        self.assertGreater(read, 30)

    def first_wrong(self, text):
        """The first row that is wrong by the form of its signs, or is refused by a society, or None."""
        rows = text.split("\n")
        if not OPENING.fullmatch(rows[0]):
            return 0
        kind, blanks, *table = rows[0].split(" ")[1:]
        try:
            society = Society([int(many) for many in table], int(blanks), kind == "tied")
        except ValueError:
            return 0
        for at, row in enumerate(rows[1:], start=1):
            try:
                society.deed(deed_in(row))
            except (ValueError, TypeError):
                return at
        return None


if __name__ == "__main__":
    unittest.main()
