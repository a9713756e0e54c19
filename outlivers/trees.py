"""The histories of strokes from now on, and a member's odds of outliving them."""

from outlivers.errors import BadStrokes
from outlivers.shares import lives, lowest, times
from outlivers.stand import all_tickets, bet_table, living_tickets, member_of, purses, struck_by

MOST_STROKES = 3


def tree_of(stand, strokes):
    """The leaves of all histories of so many strokes."""
    refuse_strokes(strokes)
    histories = [((), (1, 1), stand)]
    for stroke in range(strokes):
        # Each history's next strokes stand at its place, so the order by earlier strokes stays.
        histories = [longer for history in histories for longer in one_on(history)]
    return [(row, share, purses(behind)) for row, share, behind in histories]


def odds_of(stand, name, strokes):
    """The share of the histories behind which a member lives."""
    member = member_of(stand, name)
    refuse_strokes(strokes)
    return lives(tree_of(stand, strokes), name) if member.alive else (0, 1)


def refuse_strokes(strokes):
    """Refuses a number of strokes that is out of bounds."""
    if strokes < 0 or strokes > MOST_STROKES:
        raise BadStrokes("strokes out of bounds")


def one_on(history):
    """The histories that are one stroke longer, or the history itself where there is no ticket left."""
    row, share, stand = history
    many = all_tickets(stand)
    if many == 0:
        return [history]
    bets = bet_table(stand)
    longer = []
    for ticket, part in first_tickets(stand):
        behind = struck_by(stand, bets, ticket)
        longer.append((row + (behind.past[-1][2],), times(share, lowest(part, many)), behind))
    return longer


def first_tickets(stand):
    """The pairs of the first ticket and the number of tickets, of each living member and of the blanks if any."""
    pairs = []
    ticket = 0
    for part in living_tickets(stand) + [stand.empties]:
        if part > 0:
            pairs.append((ticket, part))
        ticket += part
    return pairs
