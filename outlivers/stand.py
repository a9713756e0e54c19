"""How a society stands, what a stroke does to it, and what each deed refuses."""

from outlivers.errors import BadAge, BadBlanks, BadCoins, BadName, BadTable, BadUnits, Dead, Full, NoBet, NoMember
from outlivers.errors import NotTied, Same, Short, Standing, Taken, Tied
from outlivers.names import is_name
from outlivers.stakes import best_cover, greatest, shut_of
from outlivers.strokes import moved
from outlivers.tickets import ticket_of, tickets_at, total
from outlivers.units import bets_of, laid, unit
from outlivers.weights import overweight, weights
from outlivers.wheel import wheel

MOST_PLACES = 60
MOST_TICKETS = 1000
MOST_BLANKS = 1000
MOST_LIVING = 12
MOST_AGE = 99
MOST_PAID = 1000000
MOST_DRAWN = 1000000000
MOST_UNITS = 1000000


class Member:
    """How a member stands. It is never changed once it is made, so that stands can share it."""

    def __init__(self, years, purse, alive):
        self.years = years
        self.purse = purse
        self.alive = alive


class Stand:
    """How a society stands. It and its lists are never changed once it is made: each deed makes another one.

    rates is the ticket table, empties the number of blanks, bound True where only tied members bet. members keeps
    them by their names in the order in which they joined, pairs the ties, hands the bets by hand, past the strokes.
    """

    def __init__(self, rates, empties, bound, members, pairs, hands, past):
        self.rates = rates
        self.empties = empties
        self.bound = bound
        self.members = members
        self.pairs = pairs
        self.hands = hands
        self.past = past


def first_stand(table, blanks, tied):
    """How a society stands when it is opened."""
    if not is_table(table):
        raise BadTable("no ticket table")
    refuse_blanks(blanks)
    return Stand(list(table), blanks, tied, {}, [], [], [])


def is_table(table):
    """True where a list is a ticket table."""
    return 1 <= len(table) <= MOST_PLACES and all([1 <= many <= MOST_TICKETS for many in table])


def with_member(stand, name, member):
    """The stand with a member put in, or in the place of the one of that name."""
    members = dict(stand.members)
    members[name] = member
    return Stand(stand.rates, stand.empties, stand.bound, members, stand.pairs, stand.hands, stand.past)


def with_pairs(stand, pairs):
    """The stand with other ties."""
    return Stand(stand.rates, stand.empties, stand.bound, stand.members, pairs, stand.hands, stand.past)


def with_hands(stand, hands):
    """The stand with other bets by hand."""
    return Stand(stand.rates, stand.empties, stand.bound, stand.members, stand.pairs, hands, stand.past)


def member_of(stand, name):
    """The member of a name, living or dead."""
    if name not in stand.members:
        raise NoMember("no member of the name")
    return stand.members[name]


def living_names(stand):
    """The living members' names."""
    return [name for name, member in stand.members.items() if member.alive]


def places(stand):
    """The living members' numbers, by their names."""
    return {name: at for at, name in enumerate(living_names(stand))}


def purses(stand):
    """All members' coins."""
    return [member.purse for member in stand.members.values()]


def tickets_with(stand, name):
    """How many tickets a member has, a dead one none."""
    member = member_of(stand, name)
    return tickets_at(stand.rates, member.years) if member.alive else 0


def living_tickets(stand):
    """The living members' tickets."""
    return [tickets_with(stand, name) for name in living_names(stand)]


def all_tickets(stand):
    """How many tickets there are together, the blanks too."""
    return total(living_tickets(stand), stand.empties)


def drawn_by(stand, ticket):
    """The name of the member whose ticket it is, the text of no signs for a blank."""
    place = ticket_of(living_tickets(stand), stand.empties, ticket)
    return "" if place is None else living_names(stand)[place]


def of_two(one, other, row):
    """True where a tie or a bet by hand is one of the two, either way round."""
    return (row[0], row[1]) == (one, other) or (row[0], row[1]) == (other, one)


def any_of_two(one, other, rows):
    """True where one of some ties or bets by hand is one of the two."""
    return any([of_two(one, other, row) for row in rows])


def tied_with(stand, name):
    """The names of those tied to a member."""
    return [other for other in stand.members if any_of_two(name, other, stand.pairs)]


def hand_table(stand):
    """The bet table of the bets by hand."""
    at = places(stand)
    table = [[0] * len(at) for name in at]
    for one, other, units in stand.hands:
        table[at[one]][at[other]] = units
        table[at[other]][at[one]] = units
    return table


def free_purses(stand):
    """What of the living members' purses isn't held by bets by hand."""
    held = laid(hand_table(stand), living_tickets(stand))
    return [stand.members[name].purse - coins for name, coins in zip(living_names(stand), held)]


def free_of(stand, name):
    """What of a member's purse isn't held, all of a dead one's."""
    member = member_of(stand, name)
    return free_purses(stand)[places(stand)[name]] if member.alive else member.purse


def free_weights(stand):
    """What the living members' free coins weigh."""
    return weights(free_purses(stand), living_tickets(stand))


def tied_places(stand):
    """The ties as pairs of the living members' numbers, None where all may bet against one another."""
    at = places(stand)
    return [(at[one], at[other]) for one, other in stand.pairs] if stand.bound else None


def stakes_of(stand):
    """The stakes of the living members."""
    if stand.bound:
        return greatest(free_weights(stand), tied_places(stand))
    return wheel(free_weights(stand))


def cover_of(stand):
    """A cover that shows the stakes."""
    # The wheel's stakes are a greatest table too, so a cover that shows one of these shows them.
    return best_cover(free_weights(stand), tied_places(stand))


def shut_places(stand):
    """The numbers of living members who can't all lay all that they have, None where there are none such."""
    if stand.bound:
        return shut_of(free_weights(stand), tied_places(stand))
    heavy = overweight(free_weights(stand))
    return None if heavy is None else [heavy]


def shut_names(stand):
    """The names of living members who can't all lay all that they have, None where there are none such."""
    names = living_names(stand)
    some = shut_places(stand)
    return None if some is None else [names[place] for place in some]


def told_table(stand):
    """The bet table of the told bets."""
    return bets_of(stakes_of(stand), living_tickets(stand))


def told_bets(stand):
    """The told bets as triples (one, other, units)."""
    at = places(stand)
    table = told_table(stand)
    rows = [(one, other, table[at[one]][at[other]]) for one in at for other in at if at[one] < at[other]]
    return [row for row in rows if row[2] > 0]


def bet_table(stand):
    """The bet table of all bets, those by hand and the told ones."""
    told = told_table(stand)
    return [[units + told[i][j] for j, units in enumerate(row)] for i, row in enumerate(hand_table(stand))]


def struck_by(stand, bets, ticket):
    """The stand behind a ticket's stroke; bets is the table of all bets, which many strokes can share."""
    dead = drawn_by(stand, ticket)
    place = None if dead == "" else places(stand)[dead]
    names = living_names(stand)
    richer = dict(zip(names, moved(bets, living_tickets(stand), place)))
    paid = tuple([(name, coins) for name, coins in richer.items() if coins > 0])
    members = dict(stand.members)
    for name in names:
        members[name] = outlived(stand.members[name], richer[name], name != dead)
    pairs = [pair for pair in stand.pairs if dead not in pair]
    past = stand.past + [(ticket, all_tickets(stand), dead, paid)]
    return Stand(stand.rates, stand.empties, stand.bound, members, pairs, [], past)


def outlived(member, coins, alive):
    """A member behind a stroke, so much richer: one older where it lives, of its last age where it died."""
    return Member(member.years + 1 if alive else member.years, member.purse + coins, alive)


def refuse_blanks(many):
    """Refuses a number of blanks that is out of bounds."""
    if many < 0 or many > MOST_BLANKS:
        raise BadBlanks("blanks out of bounds")


def refuse_coins(coins, most):
    """Refuses a number of coins that is out of bounds."""
    if coins < 1 or coins > most:
        raise BadCoins("coins out of bounds")


def refuse_dead(stand, name):
    """Refuses a dead member."""
    if not stand.members[name].alive:
        raise Dead("the member is dead")


def refuse_two(stand, one, other):
    """Refuses two that aren't members, or aren't two."""
    member_of(stand, one)
    member_of(stand, other)
    if one == other:
        raise Same("one member named twice")


def refuse_dead_two(stand, one, other):
    """Refuses two that aren't members, aren't two, or don't both live."""
    refuse_two(stand, one, other)
    refuse_dead(stand, one)
    refuse_dead(stand, other)


def refuse_standing(stand, one, other):
    """Refuses two of whom a bet by hand stands."""
    if any_of_two(one, other, stand.hands):
        raise Standing("a bet by hand of the two stands")


def refuse_not_tied(stand, one, other):
    """Refuses two who aren't tied."""
    if not any_of_two(one, other, stand.pairs):
        raise NotTied("the two aren't tied")


def join(stand, row):
    """The stand behind a joining."""
    word, name, age = row
    if not is_name(name):
        raise BadName("no name")
    if name in stand.members:
        raise Taken("a member has the name")
    if len(living_names(stand)) >= MOST_LIVING:
        raise Full("as many members live as may")
    if age < 0 or age > MOST_AGE:
        raise BadAge("age out of bounds")
    return with_member(stand, name, Member(age, 0, True))


def pay(stand, row):
    """The stand behind a payment."""
    word, name, coins = row
    member = member_of(stand, name)
    refuse_dead(stand, name)
    refuse_coins(coins, MOST_PAID)
    return with_member(stand, name, Member(member.years, member.purse + coins, member.alive))


def draw(stand, row):
    """The stand behind a drawing."""
    word, name, coins = row
    member = member_of(stand, name)
    refuse_coins(coins, MOST_DRAWN)
    if coins > free_of(stand, name):
        raise Short("more than what is free")
    return with_member(stand, name, Member(member.years, member.purse - coins, member.alive))


def tie(stand, row):
    """The stand behind a tying."""
    word, one, other = row
    refuse_dead_two(stand, one, other)
    if any_of_two(one, other, stand.pairs):
        raise Tied("the two are tied")
    return with_pairs(stand, stand.pairs + [(one, other)])


def untie(stand, row):
    """The stand behind an untying."""
    word, one, other = row
    refuse_two(stand, one, other)
    refuse_not_tied(stand, one, other)
    refuse_standing(stand, one, other)
    return with_pairs(stand, [pair for pair in stand.pairs if not of_two(one, other, pair)])


def bet(stand, row):
    """The stand behind a bet by hand."""
    word, one, other, units = row
    refuse_dead_two(stand, one, other)
    if stand.bound:
        refuse_not_tied(stand, one, other)
    if units < 1 or units > MOST_UNITS:
        raise BadUnits("units out of bounds")
    refuse_standing(stand, one, other)
    cost, other_cost = unit(tickets_with(stand, one), tickets_with(stand, other))
    if units * cost > free_of(stand, one) or units * other_cost > free_of(stand, other):
        raise Short("it costs more than what is free")
    return with_hands(stand, stand.hands + [(one, other, units)])


def drop(stand, row):
    """The stand behind the dropping of a bet by hand."""
    word, one, other = row
    refuse_two(stand, one, other)
    if not any_of_two(one, other, stand.hands):
        raise NoBet("no bet by hand of the two stands")
    return with_hands(stand, [hand for hand in stand.hands if not of_two(one, other, hand)])


def set_blanks(stand, row):
    """The stand with another number of blanks."""
    word, many = row
    refuse_blanks(many)
    return Stand(stand.rates, many, stand.bound, stand.members, stand.pairs, stand.hands, stand.past)


def strike(stand, row):
    """The stand behind a stroke."""
    word, ticket = row
    return struck_by(stand, bet_table(stand), ticket)


DEEDS = {
    "join": join,
    "pay": pay,
    "draw": draw,
    "tie": tie,
    "untie": untie,
    "bet": bet,
    "drop": drop,
    "blanks": set_blanks,
    "strike": strike,
}


def done(stand, row):
    """The stand behind a deed, or the deed's refusal."""
    deed = DEEDS[row[0]]
    return deed(stand, row)
