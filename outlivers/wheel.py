"""The stakes of members in a row, each laying against those that lie across the ring."""

from outlivers.weights import overweight


def arcs(weights):
    """The pairs (from, to) of the members' arcs, one behind the other from 0 on."""
    laid = []
    start = 0
    for weight in weights:
        laid.append((start, start + 2 * weight))
        start += 2 * weight
    return laid


def ring(weights):
    """How much of each one's arc is covered by each one's arc turned by half the ring."""
    # The ring is twice as long as all weights together.
    half = sum(weights)
    laid = arcs(weights)
    return [[across(one, other, half) for other in laid] for one in laid]


def across(one, other, half):
    """How much of one arc is covered by another one turned by half the ring."""
    # The turned arc may lie over the place where the ring begins: its two images are one ring apart.
    return common(one, shifted(other, half)) + common(one, shifted(other, -half))


def shifted(arc, by):
    """An arc so much further on."""
    return (arc[0] + by, arc[1] + by)


def common(one, other):
    """How long two arcs lie over one another."""
    return max(0, min(one[1], other[1]) - max(one[0], other[0]))


def wheel(weights):
    """The stake table of a row of members."""
    heavy = overweight(weights)
    if heavy is None:
        return ring(weights)
    return [all_against(heavy, member, weights) for member in range(len(weights))]


def all_against(heavy, member, weights):
    """A member's stakes where each other one lays all its weight against the one that overweighs."""
    if member == heavy:
        return [0 if other == heavy else 2 * weight for other, weight in enumerate(weights)]
    return [2 * weights[member] if other == heavy else 0 for other in range(len(weights))]
