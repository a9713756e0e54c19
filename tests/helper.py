"""What the tests of several modules share."""

import contextlib
import copy
import random
import signal


class TooSlow(Exception):
    """What was to be told soon was not."""


@contextlib.contextmanager
def soon(seconds=20):
    """Breaks off what takes longer, so that a slow way fails instead of hanging."""

    def stop(number, frame):
        raise TooSlow(f"not told within {seconds} seconds")

    before = signal.signal(signal.SIGALRM, stop)
    signal.alarm(seconds)
    try:
        yield
    finally:
        signal.alarm(0)
        signal.signal(signal.SIGALRM, before)


def is_plain(thing):
    """True where it is made of whole numbers (no True, no False), texts, None, lists and tuples alone."""
    if type(thing) in (list, tuple):
        return all(is_plain(one) for one in thing)
    return thing is None or type(thing) in (int, str)


def is_truth(thing):
    """True where it is True or False, and no number in place of them."""
    return type(thing) is bool


def lists_in(thing):
    """All lists in a thing, itself among them."""
    found = [thing] if type(thing) is list else []
    if type(thing) in (list, tuple):
        for one in thing:
            found.extend(lists_in(one))
    return found


def spoil(thing):
    """Changes every list in a thing."""
    for one in lists_in(thing):
        one.reverse()
        one.append(-77)


def asked(case, function, *things, kind=is_plain):
    """What a function tells, with all that point [2] says of it looked at on the way."""
    handed = copy.deepcopy(things)
    told = function(*handed)
    first = copy.deepcopy(told)
    case.assertTrue(kind(told), "what is told is of another kind")
    case.assertEqual(handed, things, "what was handed in was changed")

    theirs = {id(one) for one in lists_in(handed)}
    ours = [id(one) for one in lists_in(told)]
    case.assertEqual(len(ours), len(set(ours)), "a list is told twice over")
    case.assertFalse(theirs & set(ours), "a list that was handed in is told")

    spoil(told)
    case.assertEqual(handed, things, "changing what was told changed what was handed in")
    again = function(*handed)
    case.assertEqual(again, first, "the same handed in again told something else")

    spoil(handed)
    case.assertEqual(again, first, "changing what was handed in changed what was told")
    case.assertEqual(function(*copy.deepcopy(things)), first, "something handed in was kept")
    return first


def answered(case, function, *things):
    """The True or False that a function tells, looked at in the same way."""
    return asked(case, function, *things, kind=is_truth)


def bet_cases(seed, most):
    """Tickets of no members up to twelve and a table of numbers beside them, noughts at each one's own place."""
    chance = random.Random(seed)
    for size in range(13):
        for reach in (0, 1, 3, most, 10 ** 200):
            tickets = [chance.choice((1, 2, 6, 12, 999, 1000, chance.randint(1, 1000))) for place in range(size)]
            table = [[chance.randint(0, reach) for place in range(size)] for row in range(size)]
            for place in range(size):
                table[place][place] = 0
            yield tickets, table


def evened(table):
    """The table with what stands above its own places set below them too."""
    return [[table[min(i, j)][max(i, j)] for j in range(len(table))] for i in range(len(table))]


def drawn_ties(chance, size, share):
    """Ties of members, some told twice or the other way round, in no order."""
    ties = []
    for one in range(size):
        for other in range(one):
            if chance.random() < share:
                ties.extend(chance.choice(([(one, other)], [(other, one)], [(one, other), (other, one), (one, other)])))
    chance.shuffle(ties)
    return ties


def drawn_weights(chance, size, most):
    """Weights of members, some of them nought, some far greater than others."""
    return [chance.choice((0, most, chance.randint(0, most), chance.randint(0, most // 3))) for member in range(size)]


def tie_cases(seed, sizes, mosts, rounds=1):
    """Weights and ties, None and drawn ones."""
    chance = random.Random(seed)
    for size in sizes:
        for most in mosts:
            for share in (None, 0, 0.15, 0.3, 0.6, 1) * rounds:
                ties = None if share is None else drawn_ties(chance, size, share)
                yield drawn_weights(chance, size, most), ties


def are_tied(ties, one, other):
    """Whether two members are tied, by the words of point [9]."""
    if ties is None:
        return one != other
    return (one, other) in ties or (other, one) in ties
