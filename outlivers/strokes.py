"""What a stroke moves from purse to purse, and whom a bet table favours."""

from outlivers.units import unit


def moved(bets, tickets, dead):
    """How many coins each member is richer where the one of the number dead dies, or nobody where it is None."""
    richer = [0] * len(bets)
    if dead is None:
        return richer
    for other, many in enumerate(bets[dead]):
        paid = many * unit(tickets[dead], tickets[other])[0]
        richer[other] += paid
        richer[dead] -= paid
    return richer


def struck(coins, bets, tickets, dead):
    """All members' coins behind a stroke."""
    return [held + more for held, more in zip(coins, moved(bets, tickets, dead))]


def gains(bets, tickets):
    """Each member's gain by a bet table, over all deaths."""
    gained = [0] * len(bets)
    for dead, many in enumerate(tickets):
        for member, more in enumerate(moved(bets, tickets, dead)):
            gained[member] += many * more
    return gained


def even(bets):
    """True where each two members have laid as many units against one another."""
    return all([many == bets[other][member] for member, row in enumerate(bets) for other, many in enumerate(row)])
