"""Stake tables, their faults, the greatest ones, and the covers that show that none are greater."""

from outlivers.flow import fullest
from outlivers.ties import tie_table


def fault(weights, ties, stakes):
    """The first fault of a stake table, or None."""
    tied = tie_table(ties, len(weights))
    for member, row in enumerate(stakes):
        for other in range(len(row)):
            word = word_at(tied, stakes, member, other)
            if word is not None:
                return (word, member, other)
        if sum(row) > 2 * weights[member]:
            return ("over", member, -1)
    return None


def word_at(tied, stakes, member, other):
    """The word for what is wrong at one place of a stake table, or None."""
    stake = stakes[member][other]
    if stake < 0:
        return "low"
    if member == other and stake != 0:
        return "self"
    if stake > 0 and not tied[member][other]:
        return "lone"
    if stake != stakes[other][member]:
        return "odd"
    return None


def sum_of(stakes):
    """The sum of all numbers of a stake table."""
    return sum([sum(row) for row in stakes])


def greatest(weights, ties):
    """A stake table without a fault of which none has a greater sum."""
    given, givers, takers = fullest(weights, tie_table(ties, len(weights)))
    # Each member's weight stands in it twice, once given and once taken, as stakes are told.
    return [[many + given[other][member] for other, many in enumerate(row)] for member, row in enumerate(given)]


def best_cover(weights, ties):
    """A cover that shows that a greatest stake table is one."""
    given, givers, takers = fullest(weights, tie_table(ties, len(weights)))
    return [halves(member, givers, takers) for member in range(len(weights))]


def halves(member, givers, takers):
    """A member's number in the cover: one half for what it gave in full, one for what it took in full."""
    gave = 0 if member in givers else 1
    took = 1 if member in takers else 0
    return gave + took


def shut_of(weights, ties):
    """A growing list of members that shuts, or None."""
    given, givers, takers = fullest(weights, tie_table(ties, len(weights)))
    # All who are near those who could still give are full, and these have something left.
    return sorted(givers) if givers else None


def good_cover(ties, cover):
    """True where the numbers of every two tied members are together 2 or more."""
    for one, row in enumerate(tie_table(ties, len(cover))):
        for other, is_tied in enumerate(row):
            if is_tied and cover[one] + cover[other] < 2:
                return False
    return True


def cover_weight(weights, cover):
    """The sum of each member's weight times its number."""
    return sum([weight * many for weight, many in zip(weights, cover)])


def show(weights, ties, stakes, cover):
    """True where a stake table and a cover show one another."""
    if fault(weights, ties, stakes) is not None or not good_cover(ties, cover):
        return False
    return sum_of(stakes) == 2 * cover_weight(weights, cover)
