"""Who has how many tickets, and whose a ticket is."""

from outlivers.errors import BadTicket


def tickets_at(table, age):
    """How many tickets a ticket table gives a member of an age."""
    return table[min(age, len(table) - 1)]


def total(tickets, blanks):
    """How many tickets there are together, the blanks too."""
    return sum(tickets) + blanks


def ticket_of(tickets, blanks, ticket):
    """The number of the member whose ticket it is, None for a blank."""
    if ticket < 0 or ticket >= total(tickets, blanks):
        # The number isn't shown: Python refuses to write out very great ones.
        raise BadTicket("no ticket of that number")
    end = 0
    for member, many in enumerate(tickets):
        end += many
        if ticket < end:
            return member
    return None
