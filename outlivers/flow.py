"""The most that members can give one another, each giving and taking no more than its weight."""


def fullest(weights, tied):
    """A giving that none goes beyond, who could still give behind it, and who could still be given.

    The giving is a list of lists of what each member gives each other one. The two others are dicts, told by
    `reached`; as they end at nobody who can take more, they show that nothing is left to be given.
    """
    given = [[0] * len(weights) for member in weights]
    unspent = list(weights)
    room = list(weights)
    while True:
        givers, takers = reached(given, unspent, tied)
        end = first_with_room(takers, room)
        if end is None:
            return (given, givers, takers)
        give_along(path_to(end, givers, takers), given, unspent, room)


def reached(given, unspent, tied):
    """All who could give more and all to whom more could be given, the nearest first.

    A giver has something left, or could take something back that it gave a taker: that one, or None, is kept
    for each giver, and for each taker a giver.
    """
    givers = {member: None for member, left in enumerate(unspent) if left > 0}
    takers = {}
    wave = list(givers)
    while wave:
        found = new_takers(wave, takers, tied)
        wave = new_givers(found, givers, given)
    return (givers, takers)


def new_takers(wave, takers, tied):
    """Those tied to some givers who weren't reached yet; they are put among the takers."""
    found = []
    for giver in wave:
        for taker, is_tied in enumerate(tied[giver]):
            if is_tied and taker not in takers:
                takers[taker] = giver
                found.append(taker)
    return found


def new_givers(found, givers, given):
    """Those who gave something to some takers and weren't reached yet; they are put among the givers."""
    wave = []
    for taker in found:
        for giver, row in enumerate(given):
            if row[taker] > 0 and giver not in givers:
                givers[giver] = taker
                wave.append(giver)
    return wave


def first_with_room(takers, room):
    """The nearest taker who can take more for good, or None."""
    # Only the nearest keeps the number of paths small, however great the weights are.
    for taker in takers:
        if room[taker] > 0:
            return taker
    return None


def path_to(end, givers, takers):
    """The triples (giver, taker, the taker from whom the giver takes it back, or None), the end's first."""
    path = []
    taker = end
    while taker is not None:
        giver = takers[taker]
        path.append((giver, taker, givers[giver]))
        taker = givers[giver]
    return path


def give_along(path, given, unspent, room):
    """Gives as much as can be along a path."""
    end = path[0][1]
    start = path[-1][0]
    backs = [given[giver][before] for giver, taker, before in path if before is not None]
    much = min([room[end], unspent[start]] + backs)
    for giver, taker, before in path:
        given[giver][taker] += much
        if before is not None:
            given[giver][before] -= much
    unspent[start] -= much
    room[end] -= much
