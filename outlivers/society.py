"""A society: the deeds that it keeps, and all that can be asked of it."""

from outlivers.errors import NothingLeft
from outlivers.stand import all_tickets, cover_of, done, drawn_by, first_stand, free_of, free_weights, living_names
from outlivers.stand import member_of, purses, shut_names, stakes_of, tickets_with, tied_with, told_bets
from outlivers.trees import odds_of, tree_of


class Society:
    """A society.

    opening is how it stood at first, steps are the deeds that it keeps as pairs of a deed and how it stood behind
    that, and undone are those that were taken back, the last one last.
    """

    def __init__(self, table, blanks, tied):
        self.opening = first_stand(table, blanks, tied)
        self.steps = []
        self.undone = []

    def now(self):
        """How it stands."""
        return self.steps[-1][1] if self.steps else self.opening

    def join(self, name, age):
        """A new member joins."""
        self.deed(("join", name, age))

    def pay(self, name, coins):
        """A living member pays into its purse."""
        self.deed(("pay", name, coins))

    def draw(self, name, coins):
        """A member's free coins are drawn out."""
        self.deed(("draw", name, coins))

    def tie(self, one, other):
        """Two living members are tied."""
        self.deed(("tie", one, other))

    def untie(self, one, other):
        """Two members are tied no more."""
        self.deed(("untie", one, other))

    def bet(self, one, other, units):
        """Two living members bet by hand."""
        self.deed(("bet", one, other, units))

    def drop(self, one, other):
        """A bet by hand stands no more."""
        self.deed(("drop", one, other))

    def set_blanks(self, many):
        """There are so many blanks from now on."""
        self.deed(("blanks", many))

    def strike(self, ticket):
        """A ticket's stroke; who died by it, the text of no signs where nobody did."""
        return self.deed(("strike", ticket))

    def deed(self, row):
        """Does a deed; who died where it is a stroke, else None."""
        behind = done(self.now(), row)
        self.steps.append((row, behind))
        self.undone = []
        return behind.past[-1][2] if row[0] == "strike" else None

    def check(self, row):
        """Refuses a deed that would be refused, and does nothing else."""
        done(self.now(), row)

    def back(self):
        """Takes the last deed back."""
        if not self.steps:
            raise NothingLeft("no deed to take back")
        self.undone.append(self.steps.pop())

    def again(self):
        """Does again what was taken back last."""
        if not self.undone:
            raise NothingLeft("no deed to do again")
        self.steps.append(self.undone.pop())

    def deeds(self):
        """The deeds that are kept, the eldest first."""
        return [row for row, behind in self.steps]

    def twin(self):
        """Another society, alike in all."""
        other = Society(self.table(), self.first_blanks(), self.is_tied())
        # The two can share how they stood, as no stand is ever changed.
        other.steps = list(self.steps)
        other.undone = list(self.undone)
        return other

    def names(self):
        """All members."""
        return list(self.now().members)

    def living(self):
        """The living members."""
        return living_names(self.now())

    def is_tied(self):
        """True where only tied members bet."""
        return self.opening.bound

    def table(self):
        """The ticket table."""
        return list(self.opening.rates)

    def first_blanks(self):
        """How many blanks there were when it was opened."""
        return self.opening.empties

    def blanks(self):
        """How many blanks there are."""
        return self.now().empties

    def total(self):
        """How many tickets there are together, the blanks too."""
        return all_tickets(self.now())

    def age(self, name):
        """A member's age."""
        return member_of(self.now(), name).years

    def coins(self, name):
        """A member's coins."""
        return member_of(self.now(), name).purse

    def free(self, name):
        """A member's coins that no bet by hand holds."""
        return free_of(self.now(), name)

    def tickets(self, name):
        """A member's tickets, none of a dead one."""
        return tickets_with(self.now(), name)

    def ties(self, name):
        """Those tied to a member."""
        member_of(self.now(), name)
        return tied_with(self.now(), name)

    def bets(self):
        """The bets by hand, the eldest first."""
        return list(self.now().hands)

    def who(self, ticket):
        """The member whose ticket it is, the text of no signs for a blank."""
        return drawn_by(self.now(), ticket)

    def behind(self, ticket):
        """All members' coins behind a ticket's stroke."""
        return purses(done(self.now(), ("strike", ticket)))

    def weights(self):
        """The weights of the living members' free coins."""
        return free_weights(self.now())

    def stakes(self):
        """The stakes of the living members."""
        return stakes_of(self.now())

    def cover(self):
        """A cover that shows the stakes."""
        return cover_of(self.now())

    def shut(self):
        """Living members who can't all lay all that they have, or None."""
        return shut_names(self.now())

    def told(self):
        """The told bets."""
        return told_bets(self.now())

    def strokes(self):
        """The strokes that were struck, the eldest first."""
        return list(self.now().past)

    def tree(self, strokes):
        """The leaves of all histories of so many strokes from now on."""
        return tree_of(self.now(), strokes)

    def odds(self, name, strokes):
        """The share of the histories behind which a member lives."""
        return odds_of(self.now(), name, strokes)


def opened(table, blanks, tied, deeds):
    """A society in which some deeds were done."""
    society = Society(table, blanks, tied)
    for row in deeds:
        society.deed(row)
    return society
