"""A house of societies."""

from outlivers.errors import BadName, Holding, Known, NoSociety, Same
from outlivers.lines import answer
from outlivers.names import is_name
from outlivers.pages import page, society_of
from outlivers.society import Society


class House:
    """Societies by names, in the order in which they came."""

    def __init__(self):
        self.societies = {}

    def named(self, name):
        """The society of a name."""
        if name not in self.societies:
            raise NoSociety("no society of the name")
        return self.societies[name]

    def refuse_name(self, name):
        """Refuses what is no name for a new society."""
        if not is_name(name):
            raise BadName("no name")
        if name in self.societies:
            raise Known("a society has the name")

    def open_one(self, name, table, blanks, tied):
        """Opens a society under a name."""
        self.refuse_name(name)
        self.societies[name] = Society(table, blanks, tied)

    def read(self, name, text):
        """Takes a society in that a page tells."""
        self.refuse_name(name)
        self.societies[name] = society_of(text)

    def copy_one(self, name, other):
        """Takes a twin of a society in under another name."""
        twin = self.named(name).twin()
        self.refuse_name(other)
        self.societies[other] = twin

    def close(self, name):
        """Closes a society in which nobody has coins."""
        society = self.named(name)
        if any([society.coins(member) > 0 for member in society.names()]):
            raise Holding("a member has coins")
        self.societies.pop(name)

    def move(self, name, other, member, coins):
        """Moves coins of a member to the purse of the member of the same name in another society."""
        society = self.named(name)
        another = self.named(other)
        if name == other:
            raise Same("one society named twice")
        # Both are looked at first, so that where one refuses it nothing is done in either.
        society.check(("draw", member, coins))
        another.check(("pay", member, coins))
        society.draw(member, coins)
        another.pay(member, coins)

    def names(self):
        """The names of all societies."""
        return list(self.societies)

    def view(self, name):
        """A twin of a society."""
        return self.named(name).twin()

    def page(self, name):
        """A society's page."""
        return page(self.named(name))

    def deed(self, name, row):
        """Does a deed in a society; who died where it is a stroke, else None."""
        return self.named(name).deed(row)

    def back(self, name):
        """Takes a society's last deed back."""
        self.named(name).back()

    def again(self, name):
        """Does again what was taken back last in a society."""
        self.named(name).again()

    def say(self, line):
        """The answer to a line."""
        return answer(self, line)
