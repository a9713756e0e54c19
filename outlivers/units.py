"""Units of bets: what they cost, what they weigh, and how many a stake holds."""


def divisor(a, b):
    """The greatest number that divides both."""
    while b:
        a, b = b, a % b
    return a


def unit(a, b):
    """What a unit costs the first and the second, of members with a and b tickets."""
    shared = divisor(a, b)
    return (b // shared, a // shared)


def unit_weight(a, b):
    """What a unit weighs, of members with a and b tickets."""
    return a * b // divisor(a, b)


def laid(bets, tickets):
    """The coins that each member pays if it dies."""
    return [cost_to(member, row, tickets) for member, row in enumerate(bets)]


def cost_to(member, row, tickets):
    """What the units in a member's row of a bet table cost that member."""
    cost = 0
    for other, many in enumerate(row):
        if other != member:
            cost += many * unit(tickets[member], tickets[other])[0]
    return cost


def bets_of(stakes, tickets):
    """The bet table of a stake table."""
    return [units_of(member, row, tickets) for member, row in enumerate(stakes)]


def units_of(member, row, tickets):
    """How many units the stakes in a member's row of a stake table hold."""
    held = []
    for other, stake in enumerate(row):
        if other == member:
            held.append(0)
        else:
            # A stake is told as twice the weight that is laid.
            held.append(stake // (2 * unit_weight(tickets[member], tickets[other])))
    return held
