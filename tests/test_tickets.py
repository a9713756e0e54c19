"""Points [3] and [4]: outlivers.tickets."""

import unittest

from outlivers.errors import BadTicket
from outlivers.tickets import ticket_of, tickets_at, total
from tests.helper import asked, soon

SIXTY = [(7 * place + 3) % 1000 + 1 for place in range(60)]
TWELVE = [1, 1000, 3, 250, 1, 7, 999, 2, 2, 64, 1, 500]
GREAT = 10 ** 5000


class TestTicketsAt(unittest.TestCase):
    def at(self, table, age):
        with soon():
            return asked(self, tickets_at, table, age)

    def test_each_age_within_the_table(self):
        for table in ([5, 9], [1, 1000, 2, 999], SIXTY):
            for age, many in enumerate(table):
                with self.subTest(table=table, age=age):
                    self.assertEqual(self.at(table, age), many)

    def test_the_last_place_holds_beyond_the_table(self):
        for table in ([5, 9], [1, 1000, 2, 999], SIXTY):
            last = len(table) - 1
            for age in (last, last + 1, last + 2, 99, 1000000, GREAT):
                with self.subTest(table=table):
                    self.assertEqual(self.at(table, age), table[last])

    def test_a_table_of_one_number_holds_for_every_age(self):
        for many in (1, 17, 1000):
            for age in (0, 1, 2, 59, 60, GREAT):
                with self.subTest(many=many):
                    self.assertEqual(self.at([many], age), many)

    def test_a_table_of_sixty(self):
        self.assertEqual(self.at(SIXTY, 0), 4)
        self.assertEqual(self.at(SIXTY, 58), 410)
        self.assertEqual(self.at(SIXTY, 59), 417)
        self.assertEqual(self.at(SIXTY, 60), 417)


class TestTotal(unittest.TestCase):
    def test_members_and_blanks_together(self):
        for tickets, blanks, many in (
            ([], 0, 0), ([], 1, 1), ([], 1000, 1000), ([1], 0, 1), ([1000], 0, 1000), ([2, 3], 4, 9),
            (TWELVE, 0, 2830), (TWELVE, 1000, 3830), ([1000] * 12, 1000, 13000),
        ):
            with self.subTest(tickets=tickets, blanks=blanks):
                self.assertEqual(asked(self, total, tickets, blanks), many)


class TestTicketOf(unittest.TestCase):
    def of(self, tickets, blanks, ticket):
        return asked(self, ticket_of, tickets, blanks, ticket)

    def refused(self, tickets, blanks, ticket):
        before = list(tickets)
        with soon(), self.assertRaises(BadTicket) as taken:
            ticket_of(tickets, blanks, ticket)
        self.assertIs(type(taken.exception), BadTicket)
        self.assertEqual(tickets, before)

    def test_every_ticket_of_a_small_row(self):
        told = [self.of([2, 1, 3], 2, ticket) for ticket in range(8)]
        self.assertEqual(told, [0, 0, 1, 2, 2, 2, None, None])

    def test_the_first_and_the_last_of_each_member(self):
        for tickets in ([1], [1000], [1, 1], [5, 1, 9], TWELVE, [1000] * 12):
            for blanks in (0, 1, 1000):
                first = 0
                for member, many in enumerate(tickets):
                    with self.subTest(tickets=tickets, blanks=blanks, member=member):
                        self.assertEqual(self.of(tickets, blanks, first), member)
                        self.assertEqual(self.of(tickets, blanks, first + many - 1), member)
                    first += many

    def test_the_first_and_the_last_blank(self):
        for tickets in ([], [1], [5, 1, 9], TWELVE):
            for blanks in (1, 2, 1000):
                with self.subTest(tickets=tickets, blanks=blanks):
                    self.assertIsNone(self.of(tickets, blanks, sum(tickets)))
                    self.assertIsNone(self.of(tickets, blanks, sum(tickets) + blanks - 1))

    def test_each_has_as_many_as_it_should(self):
        told = [ticket_of(TWELVE, 30, ticket) for ticket in range(sum(TWELVE) + 30)]
        self.assertEqual([told.count(member) for member in range(12)], TWELVE)
        self.assertEqual(told.count(None), 30)

    def test_no_members_and_no_blanks_leave_no_ticket(self):
        for ticket in (-1, 0, 1):
            with self.subTest(ticket):
                self.refused([], 0, ticket)

    def test_numbers_below_nought_are_refused(self):
        for tickets, blanks in (([], 5), ([3], 0), ([5, 1, 9], 2), (TWELVE, 1000)):
            for ticket in (-1, -2, -sum(tickets) - blanks, -GREAT):
                with self.subTest(tickets=tickets, blanks=blanks):
                    self.refused(tickets, blanks, ticket)

    def test_numbers_from_the_total_on_are_refused(self):
        for tickets, blanks in (([], 5), ([3], 0), ([5, 1, 9], 2), (TWELVE, 0), (TWELVE, 1000)):
            many = sum(tickets) + blanks
            for ticket in (many, many + 1, 2 * many, GREAT):
                with self.subTest(tickets=tickets, blanks=blanks):
                    self.refused(tickets, blanks, ticket)


if __name__ == "__main__":
    unittest.main()
