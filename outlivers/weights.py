"""What members weigh, and who weighs more than all others together."""


def weights(coins, tickets):
    """Each member's weight, its coins times its tickets."""
    return [held * many for held, many in zip(coins, tickets)]


def overweight(weights):
    """The number of the member that weighs more than all the others together, or None."""
    whole = sum(weights)
    for member, weight in enumerate(weights):
        if weight > whole - weight:
            return member
    return None
