"""The refusals, each a class of its own."""


class OutError(ValueError):
    """Any refusal."""


class BadName(OutError):
    """The name isn't 1 to 8 small letters."""


class Taken(OutError):
    """A member, living or dead, has the name."""


class Full(OutError):
    """As many members live as may."""


class BadAge(OutError):
    """The age is out of bounds."""


class NoMember(OutError):
    """There is no member of the name."""


class Dead(OutError):
    """The member is dead."""


class BadCoins(OutError):
    """The number of coins is out of bounds."""


class Short(OutError):
    """More is asked of a purse than is free in it."""


class Same(OutError):
    """One and the same is named where two are asked for."""


class Tied(OutError):
    """The two are tied already."""


class NotTied(OutError):
    """The two aren't tied."""


class Standing(OutError):
    """A bet by hand of the two stands."""


class BadUnits(OutError):
    """The number of units is out of bounds."""


class NoBet(OutError):
    """No bet by hand of the two stands."""


class BadTable(OutError):
    """The list is no ticket table."""


class BadBlanks(OutError):
    """The number of blanks is out of bounds."""


class BadTicket(OutError):
    """There is no ticket of the number."""


class BadStrokes(OutError):
    """The number of strokes is out of bounds."""


class NothingLeft(OutError):
    """There is no deed to take back, or none to do again."""


class NoDeed(OutError):
    """The text isn't a written deed."""


class Known(OutError):
    """A society of the name is there."""


class NoSociety(OutError):
    """There is no society of the name."""


class Holding(OutError):
    """A member of the society has coins."""


class NoPage(OutError):
    """The text isn't a society's page; row is the number of the first wrong row."""

    def __init__(self, row):
        self.row = row
