"""What the tests of several modules share."""

import contextlib
import copy
import math
import random
import re
import signal
import unittest

from outlivers import errors
from outlivers.pages import page
from outlivers.society import Society
from outlivers.stakes import shut_of
from outlivers.stand import done, first_stand, told_bets
from outlivers.ties import shuts
from outlivers.weights import overweight


class TooSlow(Exception):
    """What was to be told soon was not."""


@contextlib.contextmanager
def soon(seconds=20):
    """Breaks off what takes longer, so that a slow way fails instead of hanging."""

    def stop(number, frame):
        raise TooSlow(f"not told within {seconds} seconds")

    before = signal.signal(signal.SIGALRM, stop)
    signal.alarm(seconds)
    try:
        yield
    finally:
        signal.alarm(0)
        signal.signal(signal.SIGALRM, before)


def is_plain(thing):
    """True where it is made of whole numbers (no True, no False), texts, None, lists and tuples alone."""
    if type(thing) in (list, tuple):
        return all(is_plain(one) for one in thing)
    return thing is None or type(thing) in (int, str)


def is_truth(thing):
    """True where it is True or False, and no number in place of them."""
    return type(thing) is bool


def lists_in(thing):
    """All lists in a thing, itself among them."""
    found = [thing] if type(thing) is list else []
    if type(thing) in (list, tuple):
        for one in thing:
            found.extend(lists_in(one))
    return found


def spoil(thing):
    """Changes every list in a thing."""
    for one in lists_in(thing):
        one.reverse()
        one.append(-77)


def asked(case, function, *things, kind=is_plain):
    """What a function tells, with all that point [2] says of it looked at on the way."""
    handed = copy.deepcopy(things)
    told = function(*handed)
    first = copy.deepcopy(told)
    case.assertTrue(kind(told), "what is told is of another kind")
    case.assertEqual(handed, things, "what was handed in was changed")

    theirs = {id(one) for one in lists_in(handed)}
    ours = [id(one) for one in lists_in(told)]
    case.assertEqual(len(ours), len(set(ours)), "a list is told twice over")
    case.assertFalse(theirs & set(ours), "a list that was handed in is told")

    spoil(told)
    case.assertEqual(handed, things, "changing what was told changed what was handed in")
    again = function(*handed)
    case.assertEqual(again, first, "the same handed in again told something else")

    spoil(handed)
    case.assertEqual(again, first, "changing what was handed in changed what was told")
    case.assertEqual(function(*copy.deepcopy(things)), first, "something handed in was kept")
    return first


def answered(case, function, *things):
    """The True or False that a function tells, looked at in the same way."""
    return asked(case, function, *things, kind=is_truth)


def bet_cases(seed, most):
    """Tickets of no members up to twelve and a table of numbers beside them, noughts at each one's own place."""
    chance = random.Random(seed)
    for size in range(13):
        for reach in (0, 1, 3, most, 10 ** 200):
            tickets = [chance.choice((1, 2, 6, 12, 999, 1000, chance.randint(1, 1000))) for place in range(size)]
            table = [[chance.randint(0, reach) for place in range(size)] for row in range(size)]
            for place in range(size):
                table[place][place] = 0
            yield tickets, table


def evened(table):
    """The table with what stands above its own places set below them too."""
    return [[table[min(i, j)][max(i, j)] for j in range(len(table))] for i in range(len(table))]


def drawn_ties(chance, size, share):
    """Ties of members, some told twice or the other way round, in no order."""
    ties = []
    for one in range(size):
        for other in range(one):
            if chance.random() < share:
                ties.extend(chance.choice(([(one, other)], [(other, one)], [(one, other), (other, one), (one, other)])))
    chance.shuffle(ties)
    return ties


def drawn_weights(chance, size, most):
    """Weights of members, some of them nought, some far greater than others."""
    return [chance.choice((0, most, chance.randint(0, most), chance.randint(0, most // 3))) for member in range(size)]


def tie_cases(seed, sizes, mosts, rounds=1):
    """Weights and ties, None and drawn ones."""
    chance = random.Random(seed)
    for size in sizes:
        for most in mosts:
            for share in (None, 0, 0.15, 0.3, 0.6, 1) * rounds:
                ties = None if share is None else drawn_ties(chance, size, share)
                yield drawn_weights(chance, size, most), ties


def are_tied(ties, one, other):
    """Whether two members are tied, by the words of point [9]."""
    if ties is None:
        return one != other
    return (one, other) in ties or (other, one) in ties


class Plain:
    """A society kept by the words of points [17] to [24], as plainly as can be; its told bets are handed in."""

    def __init__(self, table, blanks, tied):
        self.table, self.blanks, self.tied = list(table), blanks, tied
        self.age, self.coins, self.dead = {}, {}, set()
        self.ties, self.bets, self.strokes = set(), [], []

    def names(self):
        return list(self.age)

    def living(self):
        return [name for name in self.age if name not in self.dead]

    def tickets(self, name):
        return 0 if name in self.dead else (self.table + self.table[-1:] * 10 ** 4)[self.age[name]]

    def owners(self):
        """Whose each ticket is, one by one."""
        return [name for name in self.living() for ticket in range(self.tickets(name))] + [""] * self.blanks

    def cost(self, one, other, units):
        return units * self.tickets(other) // math.gcd(self.tickets(one), self.tickets(other))

    def free(self, name):
        held = sum(self.cost(name, two[1 - two.index(name)], units) for *two, units in self.bets if name in two)
        return self.coins[name] - held

    def has_bet(self, one, other):
        return {one, other} in [{a, b} for a, b, units in self.bets]

    def has_tie(self, one, other):
        return frozenset((one, other)) in self.ties

    def refusal(self, row):
        """The name of the first refusal, or None."""
        return next((name for name, holds in getattr(self, "of_" + row[0])(*row[1:]) if holds()), None)

    def of_join(self, name, age):
        yield "BadName", lambda: not re.fullmatch("[a-z]{1,8}", name)
        yield "Taken", lambda: name in self.age
        yield "Full", lambda: len(self.living()) == 12
        yield "BadAge", lambda: age not in range(100)

    def of_pay(self, name, coins):
        yield "NoMember", lambda: name not in self.age
        yield "Dead", lambda: name in self.dead
        yield "BadCoins", lambda: coins not in range(1, 10 ** 6 + 1)

    def of_draw(self, name, coins):
        yield "NoMember", lambda: name not in self.age
        yield "BadCoins", lambda: coins not in range(1, 10 ** 9 + 1)
        yield "Short", lambda: coins > self.free(name)

    def of_two(self, one, other):
        yield "NoMember", lambda: one not in self.age or other not in self.age
        yield "Same", lambda: one == other

    def of_tie(self, one, other):
        yield from self.of_two(one, other)
        yield "Dead", lambda: {one, other} & self.dead
        yield "Tied", lambda: self.has_tie(one, other)

    def of_untie(self, one, other):
        yield from self.of_two(one, other)
        yield "NotTied", lambda: not self.has_tie(one, other)
        yield "Standing", lambda: self.has_bet(one, other)

    def of_bet(self, one, other, units):
        yield from self.of_two(one, other)
        yield "Dead", lambda: {one, other} & self.dead
        yield "NotTied", lambda: self.tied and not self.has_tie(one, other)
        yield "BadUnits", lambda: units not in range(1, 10 ** 6 + 1)
        yield "Standing", lambda: self.has_bet(one, other)
        yield "Short", lambda: any(self.cost(a, b, units) > self.free(a) for a, b in ((one, other), (other, one)))

    def of_drop(self, one, other):
        yield from self.of_two(one, other)
        yield "NoBet", lambda: not self.has_bet(one, other)

    def of_blanks(self, many):
        yield "BadBlanks", lambda: many not in range(1001)

    def of_strike(self, ticket):
        yield "BadTicket", lambda: ticket not in range(len(self.owners()))

    def do(self, row, told=()):
        """Does a deed that isn't refused."""
        word, *rest = row
        if word == "join":
            self.age[rest[0]], self.coins[rest[0]] = rest[1], 0
        if word in ("pay", "draw"):
            self.coins[rest[0]] += rest[1] if word == "pay" else -rest[1]
        if word in ("tie", "untie"):
            self.ties ^= {frozenset(rest)}
        if word == "bet":
            self.bets.append(tuple(rest))
        if word == "drop":
            self.bets = [one for one in self.bets if set(one[:2]) != set(rest)]
        if word == "blanks":
            self.blanks = rest[0]
        if word == "strike":
            self.strike(rest[0], told)

    def strike(self, ticket, told):
        owners = self.owners()
        dead = owners[ticket]
        got = dict.fromkeys(self.age, 0)
        for one, other, units in [bet for bet in list(told) + self.bets if dead in bet[:2]]:
            winner = other if one == dead else one
            got[winner] += self.cost(dead, winner, units)
        for name, coins in got.items():
            self.coins[name] += coins
        self.strokes.append((ticket, len(owners), dead, tuple((name, got[name]) for name in got if got[name])))
        if dead:
            self.coins[dead] -= sum(got.values())
            self.dead.add(dead)
        self.bets = []
        self.ties = {two for two in self.ties if dead not in two}
        for name in self.living():
            self.age[name] += 1

    def seen(self):
        """All that can be asked, but what hangs on the told bets."""
        names = self.names()
        return {
            "names": names, "living": self.living(), "is_tied": self.tied, "table": self.table,
            "blanks": self.blanks, "total": len(self.owners()), "bets": self.bets, "strokes": self.strokes,
            "age": [self.age[name] for name in names], "coins": [self.coins[name] for name in names],
            "free": [self.free(name) for name in names], "tickets": [self.tickets(name) for name in names],
            "ties": [[other for other in names if self.has_tie(name, other)] for name in names],
        }

    def tied_places(self):
        """The ties as the numbers of living members, None in a free society."""
        at = self.living()
        return [tuple(at.index(name) for name in sorted(two)) for two in self.ties] if self.tied else None

    def weights(self):
        return [self.free(name) * self.tickets(name) for name in self.living()]


LETTERS = "abcdefghijklmnopqrstuvwxyz"
DRAWN = ["join"] * 4 + ["pay"] * 4 + ["tie"] * 5 + ["bet"] * 4 + "draw untie drop blanks strike".split()


def drawn_deed(chance, plain, words=DRAWN):
    """A deed that fits a society more often than not."""
    names = plain.names() + ["zoe", "Bob", ""]
    near = plain.living() or names

    def some():
        return chance.choice(near if chance.random() < 0.9 else names)

    word = chance.choice(words)
    if word == "join":
        name = "".join(chance.choices(LETTERS, k=chance.choice((1, 3, 3, 8, 8, 9))))
        return (word, name, chance.choice((0, 1, 3, 99, 100)))
    if word == "pay":
        return (word, some(), chance.choice((0, 1, 17, 5000, 7000, 9000, 9000, 10 ** 6, 10 ** 6 + 1)))
    if word == "draw":
        name = some()
        free = plain.free(name) if name in plain.coins else 3
        return (word, name, chance.choice((1, free // 2, free, free + 1, 10 ** 9 + 1)))
    if word == "bet":
        return drawn_bet(chance, plain, some)
    if word == "blanks":
        return (word, chance.choice((-1, 0, 1, 5, 1000, 1001)))
    if word == "strike":
        return (word, chance.randint(-1 if chance.random() < 0.1 else 0, len(plain.owners())))
    return (word, some(), some())


def drawn_bet(chance, plain, some):
    """A bet by hand that two can often bear."""
    one, other = some(), some()
    if plain.ties and chance.random() < 0.7:
        one, other = chance.sample(sorted(chance.choice(sorted(map(sorted, plain.ties)))), 2)
    most = 5
    if {one, other} <= set(plain.living()):
        most = min(plain.free(a) // plain.cost(a, b, 1) for a, b in ((one, other), (other, one)))
    return ("bet", one, other, chance.choice((0, 1, most // 3, most // 3, most // 2, most, most + 1, 10 ** 6 + 1)))


def drawn_opening(chance):
    """A ticket table, blanks, and whether the society is tied."""
    most = chance.choice((1, 3, 12, 1000))
    table = [chance.randint(1, most) for place in range(chance.choice((1, 2, 5, 60)))]
    return (table, chance.choice((0, 0, 1, 9)), chance.random() < 0.5)


MANY = ["abcdefghijkl"[at] * (at % 8 + 1) for at in range(12)]
FULL = [("join", name, 0) for name in MANY]
FOUR = [
    ("join", "ann", 0), ("join", "bob", 1), ("join", "cyd", 2), ("join", "dan", 0),
    ("pay", "ann", 100), ("pay", "bob", 200), ("pay", "cyd", 50), ("pay", "dan", 7),
    ("tie", "ann", "bob"), ("tie", "dan", "ann"), ("strike", 10),
]
BET = FOUR + [("bet", "ann", "bob", 10)]
TABLE = [2, 3, 5]

# A deed's refusals: whether the society is tied (None: either), the deeds ahead, the deed, and the refusals that would
# stand, the one that goes first ahead. The society is opened with TABLE and 4 blanks. Of FOUR dan is dead, ann has 3
# tickets and 5 are bob's and cyd's each; a unit of ann and bob costs them 5 and 3.
REFUSED = (
    (None, [], ("join", "", 0), "BadName"),
    (None, [], ("join", "abcdefghi", 0), "BadName"),
    (None, [], ("join", "Ann", 0), "BadName"),
    (None, [], ("join", "an n", 0), "BadName"),
    (None, FULL, ("join", "", 0), "BadName Full"),
    (None, [], ("join", "x1", 100), "BadName BadAge"),
    (None, FOUR, ("join", "ann", 0), "Taken"),
    (None, FOUR, ("join", "dan", 0), "Taken"),
    (None, FULL, ("join", "a", 0), "Taken Full"),
    (None, FOUR, ("join", "ann", 100), "Taken BadAge"),
    (None, FULL, ("join", "ann", 0), "Full"),
    (None, FULL, ("join", "ann", -1), "Full BadAge"),
    (None, [], ("join", "ann", -1), "BadAge"),
    (None, [], ("join", "ann", 100), "BadAge"),
    (None, [], ("pay", "ann", 1), "NoMember"),
    (None, FOUR, ("pay", "an", 1), "NoMember"),
    (None, FOUR, ("pay", "", 0), "NoMember BadCoins"),
    (None, FOUR, ("pay", "dan", 1), "Dead"),
    (None, FOUR, ("pay", "dan", 0), "Dead BadCoins"),
    (None, FOUR, ("pay", "ann", 0), "BadCoins"),
    (None, FOUR, ("pay", "ann", -1), "BadCoins"),
    (None, FOUR, ("pay", "ann", 1000001), "BadCoins"),
    (None, FOUR, ("draw", "eve", 1), "NoMember"),
    (None, FOUR, ("draw", "eve", 0), "NoMember BadCoins"),
    (None, FOUR, ("draw", "ann", 0), "BadCoins"),
    (None, FOUR, ("draw", "ann", -1), "BadCoins"),
    (None, FOUR, ("draw", "dan", 0), "BadCoins"),
    (None, FOUR, ("draw", "ann", 1000000001), "BadCoins Short"),
    (None, FOUR, ("draw", "ann", 1000000000), "Short"),
    (None, FOUR, ("draw", "dan", 8), "Short"),
    (None, FOUR, ("tie", "ann", "eve"), "NoMember"),
    (None, FOUR, ("tie", "eve", "ann"), "NoMember"),
    (None, FOUR, ("tie", "eve", "eve"), "NoMember Same"),
    (None, FOUR, ("tie", "dan", "eve"), "NoMember Dead"),
    (None, FOUR, ("tie", "eve", "dan"), "NoMember Dead"),
    (None, FOUR, ("tie", "ann", "ann"), "Same"),
    (None, FOUR, ("tie", "dan", "dan"), "Same Dead"),
    (None, FOUR, ("tie", "ann", "dan"), "Dead"),
    (None, FOUR, ("tie", "dan", "ann"), "Dead"),
    (None, FOUR, ("tie", "ann", "bob"), "Tied"),
    (None, FOUR, ("tie", "bob", "ann"), "Tied"),
    (None, FOUR, ("untie", "ann", "eve"), "NoMember NotTied"),
    (None, FOUR, ("untie", "eve", "ann"), "NoMember NotTied"),
    (None, FOUR, ("untie", "eve", "eve"), "NoMember Same NotTied"),
    (None, FOUR, ("untie", "ann", "ann"), "Same NotTied"),
    (None, FOUR, ("untie", "ann", "cyd"), "NotTied"),
    (None, FOUR, ("untie", "dan", "ann"), "NotTied"),
    (False, FOUR + [("bet", "bob", "cyd", 1)], ("untie", "bob", "cyd"), "NotTied Standing"),
    (None, BET, ("untie", "ann", "bob"), "Standing"),
    (None, BET, ("untie", "bob", "ann"), "Standing"),
    (None, FOUR, ("bet", "ann", "eve", 1), "NoMember"),
    (None, FOUR, ("bet", "eve", "ann", 1), "NoMember"),
    (None, FOUR, ("bet", "eve", "eve", 1), "NoMember Same"),
    (None, FOUR, ("bet", "dan", "eve", 1), "NoMember Dead"),
    (None, FOUR, ("bet", "ann", "eve", 0), "NoMember BadUnits"),
    (None, FOUR, ("bet", "ann", "ann", 1), "Same"),
    (None, FOUR, ("bet", "dan", "dan", 1), "Same Dead"),
    (None, FOUR, ("bet", "ann", "ann", 0), "Same BadUnits"),
    (None, FOUR, ("bet", "ann", "ann", 999), "Same Short"),
    (None, FOUR, ("bet", "ann", "dan", 1), "Dead"),
    (None, FOUR, ("bet", "dan", "ann", 1), "Dead"),
    (None, FOUR, ("bet", "dan", "ann", 0), "Dead BadUnits"),
    (None, FOUR, ("bet", "ann", "dan", 999999), "Dead Short"),
    (True, FOUR, ("bet", "bob", "cyd", 1), "NotTied"),
    (True, FOUR, ("bet", "cyd", "bob", 0), "NotTied BadUnits"),
    (True, FOUR, ("bet", "bob", "cyd", 999999), "NotTied Short"),
    (None, FOUR, ("bet", "ann", "bob", 0), "BadUnits"),
    (None, FOUR, ("bet", "ann", "bob", -1), "BadUnits"),
    (None, FOUR, ("bet", "bob", "ann", 1000001), "BadUnits Short"),
    (None, BET, ("bet", "ann", "bob", 0), "BadUnits Standing"),
    (None, BET, ("bet", "bob", "ann", 1000001), "BadUnits Standing Short"),
    (None, BET, ("bet", "ann", "bob", 1), "Standing"),
    (None, BET, ("bet", "bob", "ann", 1), "Standing"),
    (None, BET, ("bet", "bob", "ann", 1000000), "Standing Short"),
    (None, FOUR, ("bet", "bob", "ann", 1000000), "Short"),
    (None, FOUR, ("drop", "ann", "eve"), "NoMember NoBet"),
    (None, FOUR, ("drop", "eve", "ann"), "NoMember NoBet"),
    (None, FOUR, ("drop", "eve", "eve"), "NoMember Same NoBet"),
    (None, BET, ("drop", "ann", "ann"), "Same NoBet"),
    (None, BET, ("drop", "ann", "cyd"), "NoBet"),
    (None, BET, ("drop", "ann", "dan"), "NoBet"),
    (None, BET + [("drop", "bob", "ann")], ("drop", "ann", "bob"), "NoBet"),
    (None, BET + [("strike", 14)], ("drop", "ann", "bob"), "NoBet"),
    (None, FOUR, ("blanks", -1), "BadBlanks"),
    (None, FOUR, ("blanks", 1001), "BadBlanks"),
    (None, FOUR, ("strike", -1), "BadTicket"),
    (None, FOUR, ("strike", 17), "BadTicket"),
    (None, [("blanks", 0)], ("strike", 0), "BadTicket"),
)


def refused_cases():
    """All of REFUSED, those of either kind of society twice: (tied, deeds ahead, deed, names of the refusals)."""
    for tied, ahead, row, words in REFUSED:
        for kind in (False, True) if tied is None else (tied,):
            yield kind, ahead, row, words.split()


def stand_behind(table, blanks, tied, deeds):
    """A stand behind some deeds, and the same kept plainly."""
    stand, plain = first_stand(table, blanks, tied), Plain(table, blanks, tied)
    for row in deeds:
        plain.do(row, told_bets(stand))
        stand = done(stand, row)
    return stand, plain


def drawn_stands(seed, many, steps):
    """Stands behind drawn deeds, and the same kept plainly."""
    chance = random.Random(seed)
    for time in range(many):
        opening = drawn_opening(chance)
        stand, plain = first_stand(*opening), Plain(*opening)
        for step in range(2 * steps):
            # Behind the last stroke coins, ties and bets by hand are to gather.
            row = drawn_deed(chance, plain, DRAWN if step < steps else ("pay", "pay", "tie", "bet"))
            if plain.refusal(row) is None and 10 ** 6 not in row:
                plain.do(row, told_bets(stand))
                stand = done(stand, row)
        yield stand, plain


def told_or_refused(function, *things):
    """What a function tells, or the name of the refusal."""
    try:
        return function(*things)
    except errors.OutError as refusal:
        return type(refusal).__name__


def plain_seen(society):
    """All that can be asked of a society, but what hangs on the told bets, as Plain tells it."""
    told = {}
    for word in "names living is_tied table blanks total bets strokes".split():
        told[word] = getattr(society, word)()
    for word in "age coins free tickets ties".split():
        told[word] = [getattr(society, word)(name) for name in society.names()]
    return told


def asked_tickets(society):
    """Tickets worth asking for: each one's first and last one, and those beyond."""
    ends, at = [-1, 0], 0
    for many in [society.tickets(name) for name in society.living()] + [society.blanks()]:
        at += many
        ends.extend((at - 1, at))
    return ends


def all_asked(society, strokes=1):
    """All that can be asked of a society, trees of so many strokes at the most."""
    told = plain_seen(society)
    for word in "deeds weights stakes cover shut told".split():
        told[word] = getattr(society, word)()
    for word in ("who", "behind"):
        told[word] = [told_or_refused(getattr(society, word), ticket) for ticket in asked_tickets(society)]
    some = list(range(-1, strokes + 1)) + [4]
    told["tree"] = [told_or_refused(society.tree, many) for many in some]
    told["odds"] = [told_or_refused(society.odds, name, many) for name in society.names() + ["zoe"] for many in some]
    told["page"] = page(society)
    return copy.deepcopy(told)


def stepped(society, step):
    """All that can be asked of a twin at each step back, or each step on, until nothing is left."""
    other = society.twin()
    found = []
    while told_or_refused(getattr(other, step)) != "NothingLeft":
        found.append((plain_seen(other), other.deeds(), other.told()))
    return copy.deepcopy(found)


class Refusing(unittest.TestCase):
    """What all tests of refusals ask for."""

    def refused(self, name, function, *things):
        """Looks for a refusal of its own class, and tells it."""
        handed = copy.deepcopy(things)
        with self.assertRaises(errors.OutError) as taken:
            function(*handed)
        self.assertEqual(type(taken.exception).__name__, name)
        self.assertEqual(handed, things)
        return taken.exception

    def refused_in(self, society, name, function, *things):
        """The same, where a society must be behind it as it was."""
        before = all_asked(society), stepped(society, "back"), stepped(society, "again")
        told = self.refused(name, function, *things)
        self.assertEqual((all_asked(society), stepped(society, "back"), stepped(society, "again")), before)
        return told


def drawn_society(chance, steps):
    """A society behind drawn deeds, and the same kept plainly."""
    opening = drawn_opening(chance)
    society, plain = Society(*opening), Plain(*opening)
    for step in range(steps):
        row = drawn_deed(chance, plain, DRAWN if 2 * step < steps else ("pay", "pay", "tie", "bet"))
        if plain.refusal(row) is None and 10 ** 6 not in row:
            plain.do(row, society.told())
            society.deed(row)
    return society, plain


def all_in(house):
    """All that can be asked of a house."""
    told = [house.names()]
    for name in house.names():
        society = house.view(name)
        told.append((name, all_asked(society), stepped(society, "back"), stepped(society, "again"), house.page(name)))
    return told


def shut_right(case, names, row, ties, living, stakes):
    """Looks at the names that shut, row being the weights of the living."""
    case.assertEqual(names is None, [sum(one) for one in stakes] == [2 * weight for weight in row])
    if names is None:
        case.assertIsNone(shut_of(row, ties))
        return
    places = [living.index(name) for name in names]
    case.assertEqual(places, sorted(set(places)))
    case.assertTrue(shuts(row, ties, places))
    if ties is None:
        case.assertEqual(places, [overweight(row)])
