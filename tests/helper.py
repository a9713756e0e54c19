"""What the tests of several modules share."""

import contextlib
import copy
import signal


class TooSlow(Exception):
    """What was to be told soon was not."""


@contextlib.contextmanager
def soon(seconds=20):
    """Breaks off what takes longer, so that a slow way fails instead of hanging."""

    def stop(number, frame):
        raise TooSlow(f"not told within {seconds} seconds")

    before = signal.signal(signal.SIGALRM, stop)
    signal.alarm(seconds)
    try:
        yield
    finally:
        signal.alarm(0)
        signal.signal(signal.SIGALRM, before)


def is_plain(thing):
    """True where it is made of whole numbers (no True, no False), None, lists and tuples alone."""
    if type(thing) in (list, tuple):
        return all(is_plain(one) for one in thing)
    return thing is None or type(thing) is int


def lists_in(thing):
    """All lists in a thing, itself among them."""
    found = [thing] if type(thing) is list else []
    if type(thing) in (list, tuple):
        for one in thing:
            found.extend(lists_in(one))
    return found


def spoil(thing):
    """Changes every list in a thing."""
    for one in lists_in(thing):
        one.reverse()
        one.append(-77)


def asked(case, function, *things):
    """What a function tells, with all that point [2] says of it looked at on the way."""
    handed = copy.deepcopy(things)
    told = function(*handed)
    first = copy.deepcopy(told)
    case.assertTrue(is_plain(told), told)
    case.assertEqual(handed, things, "what was handed in was changed")

    theirs = {id(one) for one in lists_in(handed)}
    ours = [id(one) for one in lists_in(told)]
    case.assertEqual(len(ours), len(set(ours)), "a list is told twice over")
    case.assertFalse(theirs & set(ours), "a list that was handed in is told")

    spoil(told)
    case.assertEqual(handed, things, "changing what was told changed what was handed in")
    again = function(*handed)
    case.assertEqual(again, first, "the same handed in again told something else")

    spoil(handed)
    case.assertEqual(again, first, "changing what was handed in changed what was told")
    case.assertEqual(function(*copy.deepcopy(things)), first, "something handed in was kept")
    return first
