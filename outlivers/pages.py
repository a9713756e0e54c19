"""Deeds written as rows, and societies written as pages of rows."""

from outlivers.errors import NoDeed, NoPage, OutError
from outlivers.names import numbers_of, things_of, written
from outlivers.society import Society

FORMS = {
    "join": ("name", "number"),
    "pay": ("name", "number"),
    "draw": ("name", "number"),
    "tie": ("name", "name"),
    "untie": ("name", "name"),
    "bet": ("name", "name", "number"),
    "drop": ("name", "name"),
    "blanks": ("number",),
    "strike": ("number",),
}


def deed_text(deed):
    """A deed as one row."""
    return written(deed)


def deed_of(text):
    """The deed that a row tells."""
    words = text.split(" ")
    if words[0] not in FORMS:
        raise NoDeed("no such deed")
    things = things_of(FORMS[words[0]], words[1:])
    if things is None:
        raise NoDeed("not so written")
    return tuple([words[0]] + things)


def page(society):
    """A society as a page."""
    kind = "tied" if society.is_tied() else "free"
    first = written(["society", kind, society.first_blanks()] + society.table())
    return "\n".join([first] + [deed_text(deed) for deed in society.deeds()])


def society_of(text):
    """The society that a page tells."""
    rows = text.split("\n")
    society = opened_by(rows[0])
    for at in range(1, len(rows)):
        do_row(society, at, rows[at])
    return society


def opened_by(row):
    """The society that a page's first row opens."""
    words = row.split(" ")
    opening = opening_of(words[1:])
    if words[0] != "society" or opening is None:
        raise NoPage(0)
    table, blanks, tied = opening
    try:
        return Society(table, blanks, tied)
    except OutError:
        raise NoPage(0) from None


def opening_of(words):
    """The triple (table, blanks, tied) that the words of an opening tell, or None."""
    if len(words) < 3 or words[0] not in ("free", "tied"):
        return None
    numbers = numbers_of(words[1:])
    return None if numbers is None else (numbers[1:], numbers[0], words[0] == "tied")


def do_row(society, at, row):
    """Does the deed that a page's row tells."""
    try:
        society.deed(deed_of(row))
    except OutError:
        raise NoPage(at) from None
