"""What a house answers to a line."""

from outlivers.errors import NoDeed, OutError
from outlivers.names import names_text, things_of, written
from outlivers.pages import deed_of, opening_of

NO_LINE = "no line"

# What stands behind the first word. Openings and deeds have forms of their own.
FORMS = {
    "copy": ("word", "word"),
    "close": ("word",),
    "move": ("word", "word", "word", "number"),
    "names": (),
    "back": ("word",),
    "again": ("word",),
    "living": ("word",),
    "coins": ("word", "word"),
    "free": ("word", "word"),
    "age": ("word", "word"),
    "total": ("word",),
    "who": ("word", "number"),
    "told": ("word",),
    "bets": ("word",),
    "shut": ("word",),
    "odds": ("word", "word", "number"),
}


def line_things(words):
    """The things that the words behind a line's first one tell, None where the line is of no form."""
    if words[0] == "open":
        return opening_things(words)
    if words[0] == "in":
        return deed_things(words)
    if words[0] not in FORMS:
        return None
    return things_of(FORMS[words[0]], words[1:])


def opening_things(words):
    """A name and an opening, None where the line is of another form."""
    opening = opening_of(words[2:])
    if opening is None or words[1] == "":
        return None
    return [words[1], opening]


def deed_things(words):
    """A name and a deed, None where the line is of another form."""
    if len(words) < 3 or words[1] == "":
        return None
    try:
        return [words[1], deed_of(" ".join(words[2:]))]
    except NoDeed:
        return None


def bets_text(bets):
    """Bets with their units, and a word for none at all."""
    return "; ".join([written(bet) for bet in bets]) if bets else "none"


def who_text(name, word):
    """A word for a member, or for nobody."""
    return "nobody" if name == "" else f"{word}{name}"


def say_open(house, things):
    """Opens a society."""
    name, (table, blanks, tied) = things
    house.open_one(name, table, blanks, tied)
    return "opened"


def say_copy(house, things):
    """Copies a society."""
    name, other = things
    house.copy_one(name, other)
    return "copied"


def say_close(house, things):
    """Closes a society."""
    house.close(things[0])
    return "closed"


def say_move(house, things):
    """Moves coins from one society to another."""
    name, other, member, coins = things
    house.move(name, other, member, coins)
    return "moved"


def say_names(house, things):
    """The societies' names."""
    return names_text(house.names())


def say_in(house, things):
    """Does a deed in a society."""
    name, deed = things
    died = house.deed(name, deed)
    return "done" if died is None else who_text(died, "died ")


def say_back(house, things):
    """Takes a deed back."""
    house.back(things[0])
    return "back"


def say_again(house, things):
    """Does a deed again."""
    house.again(things[0])
    return "again"


def say_living(house, things):
    """The living members' names."""
    return names_text(house.view(things[0]).living())


def say_coins(house, things):
    """A member's coins."""
    name, member = things
    return str(house.view(name).coins(member))


def say_free(house, things):
    """A member's free coins."""
    name, member = things
    return str(house.view(name).free(member))


def say_age(house, things):
    """A member's age."""
    name, member = things
    return str(house.view(name).age(member))


def say_total(house, things):
    """How many tickets there are together."""
    return str(house.view(things[0]).total())


def say_who(house, things):
    """Whose a ticket is."""
    name, ticket = things
    return who_text(house.view(name).who(ticket), "")


def say_told(house, things):
    """The told bets."""
    return bets_text(house.view(things[0]).told())


def say_bets(house, things):
    """The bets by hand."""
    return bets_text(house.view(things[0]).bets())


def say_shut(house, things):
    """The names that shut."""
    return names_text(house.view(things[0]).shut())


def say_odds(house, things):
    """A member's odds."""
    name, member, strokes = things
    return written(house.view(name).odds(member, strokes))


ANSWERS = {
    "open": say_open,
    "copy": say_copy,
    "close": say_close,
    "move": say_move,
    "names": say_names,
    "in": say_in,
    "back": say_back,
    "again": say_again,
    "living": say_living,
    "coins": say_coins,
    "free": say_free,
    "age": say_age,
    "total": say_total,
    "who": say_who,
    "told": say_told,
    "bets": say_bets,
    "shut": say_shut,
    "odds": say_odds,
}


def answer(house, line):
    """The answer to a line; house is asked, or what the line says is done in it."""
    words = line.split(" ")
    things = line_things(words)
    if things is None:
        return NO_LINE
    say = ANSWERS[words[0]]
    try:
        return say(house, things)
    except OutError as e:
        return f"no {e.word}"
