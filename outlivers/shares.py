"""Shares, and what the leaves of a tree come to."""

from outlivers.units import divisor


def lowest(above, below):
    """The share in lowest terms."""
    shared = divisor(below, above)
    return (above // shared, below // shared)


def added(one, other):
    """Two shares together."""
    return lowest(one[0] * other[1] + other[0] * one[1], one[1] * other[1])


def times(one, other):
    """The product of two shares."""
    return lowest(one[0] * other[0], one[1] * other[1])


def all_added(shares):
    """Any number of shares together."""
    together = (0, 1)
    for share in shares:
        together = added(together, share)
    return together


def whole(leaves):
    """All leaves' shares together."""
    return all_added([share for row, share, purses in leaves])


def mean(leaves, at):
    """What the coins at a place of the purses come to, each leaf's times its share."""
    return all_added([times((purses[at], 1), share) for row, share, purses in leaves])


def lives(leaves, name):
    """The shares of the leaves together in whose row the name doesn't stand."""
    return all_added([share for row, share, purses in leaves if name not in row])
