"""The refusals of outlivers.errors."""

import unittest

from outlivers import errors

NAMES = (
    "BadName", "Taken", "Full", "BadAge", "NoMember", "Dead", "BadCoins", "Short", "Same", "Tied", "NotTied",
    "Standing", "BadUnits", "NoBet", "BadTable", "BadBlanks", "BadTicket", "BadStrokes", "NothingLeft", "NoDeed",
    "Known", "NoSociety", "Holding", "NoPage",
)


def refusals():
    return [getattr(errors, name) for name in NAMES]


class TestErrors(unittest.TestCase):
    def test_any_refusal_is_a_value_error(self):
        self.assertTrue(issubclass(errors.OutError, ValueError))
        self.assertIsNot(errors.OutError, ValueError)

    def test_each_bears_its_name(self):
        self.assertEqual([one.__name__ for one in refusals()], list(NAMES))

    def test_each_stands_under_the_common_one(self):
        for one in refusals():
            with self.subTest(one.__name__):
                self.assertTrue(issubclass(one, errors.OutError))
                self.assertTrue(issubclass(one, ValueError))
                self.assertIsNot(one, errors.OutError)

    def test_none_stands_under_another(self):
        for one in refusals():
            for other in refusals():
                if one.__name__ != other.__name__:
                    with self.subTest(f"{one.__name__} under {other.__name__}"):
                        self.assertFalse(issubclass(one, other))

    def test_each_bears_the_name_of_its_class(self):
        for one in refusals():
            with self.subTest(one.__name__):
                self.assertEqual((one(3) if one is errors.NoPage else one("why")).word, one.__name__)

    def test_its_own_words_are_told(self):
        for one in refusals():
            if one is not errors.NoPage:
                self.assertEqual((str(one("why")), str(one())), ("why", ""))

    def test_each_can_be_raised_and_taken_by_its_name(self):
        for one in refusals():
            with self.subTest(one.__name__):
                with self.assertRaises(one):
                    raise one(3) if one is errors.NoPage else one("why")


class TestNoPage(unittest.TestCase):
    def test_it_bears_the_row(self):
        for row in (0, 1, 7, 10 ** 30):
            with self.subTest(row):
                told = errors.NoPage(row).row
                self.assertEqual(told, row)
                self.assertIs(type(told), int)

    def test_the_row_is_there_when_it_is_taken(self):
        with self.assertRaises(errors.OutError) as taken:
            raise errors.NoPage(4)
        self.assertEqual(taken.exception.row, 4)

    def test_two_of_them_bear_their_own_rows(self):
        one, other = errors.NoPage(1), errors.NoPage(2)
        self.assertEqual((one.row, other.row), (1, 2))

    def test_it_is_not_made_without_a_row(self):
        with self.assertRaises(TypeError):
            errors.NoPage()


if __name__ == "__main__":
    unittest.main()
