"""Who is near whom, and which members weigh more than all that are near them."""


def tie_table(ties, size):
    """A list of lists, of so many members: True where the two are tied, else False."""
    if ties is None:
        return [[one != other for other in range(size)] for one in range(size)]
    tied = [[False] * size for member in range(size)]
    for one, other in ties:
        tied[one][other] = True
        tied[other][one] = True
    return tied


def near(ties, size, some):
    """The growing list of the members that are tied to one of some members or more."""
    tied = tie_table(ties, size)
    return [member for member in range(size) if any([tied[member][one] for one in some])]


def shuts(weights, ties, some):
    """True where a growing list of members weighs more than all that are near it."""
    around = near(ties, len(weights), some)
    return sum([weights[member] for member in some]) > sum([weights[member] for member in around])
