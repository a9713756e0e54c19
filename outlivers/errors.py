"""The refusals, each a class of its own."""


class OutError(ValueError):
    """Any refusal; word is the name of its class, by which a line tells it."""

    def __init__(self, word, why=""):
        ValueError.__init__(self, why)
        self.word = word


class BadName(OutError):
    """The name isn't 1 to 8 small letters."""

    def __init__(self, why=""):
        OutError.__init__(self, "BadName", why)


class Taken(OutError):
    """A member, living or dead, has the name."""

    def __init__(self, why=""):
        OutError.__init__(self, "Taken", why)


class Full(OutError):
    """As many members live as may."""

    def __init__(self, why=""):
        OutError.__init__(self, "Full", why)


class BadAge(OutError):
    """The age is out of bounds."""

    def __init__(self, why=""):
        OutError.__init__(self, "BadAge", why)


class NoMember(OutError):
    """There is no member of the name."""

    def __init__(self, why=""):
        OutError.__init__(self, "NoMember", why)


class Dead(OutError):
    """The member is dead."""

    def __init__(self, why=""):
        OutError.__init__(self, "Dead", why)


class BadCoins(OutError):
    """The number of coins is out of bounds."""

    def __init__(self, why=""):
        OutError.__init__(self, "BadCoins", why)


class Short(OutError):
    """More is asked of a purse than is free in it."""

    def __init__(self, why=""):
        OutError.__init__(self, "Short", why)


class Same(OutError):
    """One and the same is named where two are asked for."""

    def __init__(self, why=""):
        OutError.__init__(self, "Same", why)


class Tied(OutError):
    """The two are tied already."""

    def __init__(self, why=""):
        OutError.__init__(self, "Tied", why)


class NotTied(OutError):
    """The two aren't tied."""

    def __init__(self, why=""):
        OutError.__init__(self, "NotTied", why)


class Standing(OutError):
    """A bet by hand of the two stands."""

    def __init__(self, why=""):
        OutError.__init__(self, "Standing", why)


class BadUnits(OutError):
    """The number of units is out of bounds."""

    def __init__(self, why=""):
        OutError.__init__(self, "BadUnits", why)


class NoBet(OutError):
    """No bet by hand of the two stands."""

    def __init__(self, why=""):
        OutError.__init__(self, "NoBet", why)


class BadTable(OutError):
    """The list is no ticket table."""

    def __init__(self, why=""):
        OutError.__init__(self, "BadTable", why)


class BadBlanks(OutError):
    """The number of blanks is out of bounds."""

    def __init__(self, why=""):
        OutError.__init__(self, "BadBlanks", why)


class BadTicket(OutError):
    """There is no ticket of the number."""

    def __init__(self, why=""):
        OutError.__init__(self, "BadTicket", why)


class BadStrokes(OutError):
    """The number of strokes is out of bounds."""

    def __init__(self, why=""):
        OutError.__init__(self, "BadStrokes", why)


class NothingLeft(OutError):
    """There is no deed to take back, or none to do again."""

    def __init__(self, why=""):
        OutError.__init__(self, "NothingLeft", why)


class NoDeed(OutError):
    """The text isn't a written deed."""

    def __init__(self, why=""):
        OutError.__init__(self, "NoDeed", why)


class Known(OutError):
    """A society of the name is there."""

    def __init__(self, why=""):
        OutError.__init__(self, "Known", why)


class NoSociety(OutError):
    """There is no society of the name."""

    def __init__(self, why=""):
        OutError.__init__(self, "NoSociety", why)


class Holding(OutError):
    """A member of the society has coins."""

    def __init__(self, why=""):
        OutError.__init__(self, "Holding", why)


class NoPage(OutError):
    """The text isn't a society's page; row is the number of the first wrong row."""

    def __init__(self, row):
        OutError.__init__(self, "NoPage", "not a page")
        self.row = row
