"""Points [17], [25] and [27]: outlivers.names."""

import string
import unittest

from outlivers.names import is_name, is_number, names_text, numbers_of, thing_of, things_of, written
from tests.helper import answered, asked

SIGNS = [sign for sign in map(chr, range(32, 127)) if sign != "%"] + ["\n"]
OTHER_SIGNS = [sign for sign in SIGNS if sign not in string.ascii_lowercase]
NO_NUMBERS = (
    "", "00", "01", "007", "0000000000", "0123456789", "10000000000", "12345678901", "99999999999", "+1", "-1", "-0",
    " 1", "1 ", "1 2", "1_0", "1.0", "1e3", "0x1", "a", "1a", "a1", "\n", "1\n", "\n1", "None", "True", "one",
    "\u0661", "\u00b2", "1\u0661", "\uff11",
)


class TestIsName(unittest.TestCase):
    def test_none_one_eight_and_nine_letters(self):
        for text, looked_for in (
            ("", False), ("a", True), ("z", True), ("ann", True), ("abcdefg", True), ("abcdefgh", True),
            ("zzzzzzzz", True), ("abcdefghi", False), ("a" * 5000, False),
        ):
            with self.subTest(text[:20]):
                self.assertIs(answered(self, is_name, text), looked_for)

    def test_every_small_letter(self):
        for sign in string.ascii_lowercase:
            self.assertIs(answered(self, is_name, sign), True)
        self.assertIs(is_name(string.ascii_lowercase[:8]), True)
        self.assertIs(is_name(string.ascii_lowercase[-8:]), True)

    def test_other_signs_wherever_they_stand(self):
        for sign in OTHER_SIGNS + ["%", "\t", "\u00e9", "\u00df", "\u03b1", "\u00aa"]:
            for text in (sign, sign + "nn", "a" + sign + "n", "ann" + sign, sign + "abcdefg", "abcdefg" + sign):
                with self.subTest(text):
                    self.assertIs(answered(self, is_name, text), False)


class TestNumbers(unittest.TestCase):
    def test_numbers(self):
        for text in ("0", "1", "9", "10", "100", "999", "1000000000", "1234567890", "9999999999"):
            with self.subTest(text):
                self.assertIs(answered(self, is_number, text), True)
                self.assertEqual(asked(self, thing_of, "number", text), int(text))

    def test_what_is_none(self):
        for text in NO_NUMBERS:
            with self.subTest(text):
                self.assertIs(answered(self, is_number, text), False)
                self.assertIsNone(asked(self, thing_of, "number", text))

    def test_every_sign(self):
        for sign in SIGNS:
            with self.subTest(sign):
                self.assertIs(is_number(sign), sign in string.digits)
                self.assertIs(is_number("1" + sign), sign in string.digits)

    def test_some_at_once(self):
        self.assertEqual(asked(self, numbers_of, []), [])
        self.assertEqual(asked(self, numbers_of, ["0"]), [0])
        self.assertEqual(asked(self, numbers_of, ["7", "0", "9999999999"]), [7, 0, 9999999999])
        for text in NO_NUMBERS:
            self.assertIsNone(asked(self, numbers_of, [text]))
            self.assertIsNone(asked(self, numbers_of, ["1", text]))
            self.assertIsNone(asked(self, numbers_of, [text, "1"]))


class TestThings(unittest.TestCase):
    def test_names_are_names_alone(self):
        self.assertEqual(asked(self, thing_of, "name", "ann"), "ann")
        for text in ("", "Ann", "abcdefghi", "7"):
            self.assertIsNone(asked(self, thing_of, "name", text))

    def test_any_word_but_none_of_no_signs(self):
        for text in ("ann", "Ann", "abcdefghi", "7", "-", "01"):
            self.assertEqual(asked(self, thing_of, "word", text), text)
        self.assertIsNone(asked(self, thing_of, "word", ""))

    def test_some_kinds(self):
        kinds = ("name", "number", "word")
        self.assertEqual(asked(self, things_of, kinds, ["ann", "0", "0"]), ["ann", 0, "0"])
        self.assertEqual(asked(self, things_of, (), []), [])
        for words in (
            [], ["ann"], ["ann", "0"], ["ann", "0", "x", "y"], ["Ann", "0", "x"], ["ann", "00", "x"], ["ann", "0", ""],
        ):
            with self.subTest(words):
                self.assertIsNone(asked(self, things_of, kinds, words))


class TestWritten(unittest.TestCase):
    def test_words_and_numbers(self):
        self.assertEqual(asked(self, written, ["join", "ann", 0]), "join ann 0")
        self.assertEqual(asked(self, written, ("pay", "bob", 1000000)), "pay bob 1000000")
        self.assertEqual(asked(self, written, ["names"]), "names")
        self.assertEqual(asked(self, written, [10 ** 30, 7]), "1" + "0" * 30 + " 7")

    def test_numbers_are_read_as_they_were_written(self):
        for number in (0, 1, 9, 10, 99, 1000, 10 ** 9, 10 ** 10 - 1):
            self.assertEqual(thing_of("number", written([number])), number)

    def test_names(self):
        self.assertEqual(asked(self, names_text, []), "none")
        self.assertEqual(asked(self, names_text, ["ann"]), "ann")
        self.assertEqual(asked(self, names_text, ["bob", "ann", "abcdefgh"]), "bob ann abcdefgh")


if __name__ == "__main__":
    unittest.main()
