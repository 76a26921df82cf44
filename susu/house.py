"""The house: members, purses and circles, and the deeds that are kept (points 18 to 23)."""

from susu.books import Books
from susu.deeds import done
from susu.errors import NothingLeft


class House:
    """A house of members who save in circles."""

    def __init__(self):
        self.books = Books()
        # Pairs: a deed, and how long the books' trail was ahead of it.
        self.kept = []
        # The deeds that were taken back, the last one last.
        self.undone = []

    def enter(self, name):
        """A member enters."""
        self.deed(("enter", name))

    def part(self, name):
        """A member parts."""
        self.deed(("part", name))

    def bring(self, name, coins):
        """A member brings coins."""
        self.deed(("bring", name, coins))

    def take(self, name, coins):
        """A member takes coins."""
        self.deed(("take", name, coins))

    def found(self, circle, stake, bidding, seats):
        """Members found a circle."""
        self.deed(("found", circle, stake, bidding, tuple(seats)))

    def pay(self, circle, name):
        """A seat pays its stake."""
        self.deed(("pay", circle, name))

    def bid(self, circle, name, coins):
        """A waiting seat bids."""
        self.deed(("bid", circle, name, coins))

    def lay(self, circle, name, coins):
        """A member lays more to the seat's pledge."""
        self.deed(("lay", circle, name, coins))

    def swap(self, circle, name, other):
        """Two waiting seats exchange their places."""
        self.deed(("swap", circle, name, other))

    def close(self, circle):
        """The open round is closed; tells its report."""
        return self.deed(("close", circle))

    def deed(self, row):
        """Do a deed, and tell what its method tells."""
        told = self.keep_done(row)
        self.undone = []
        return told

    def back(self):
        """Take the last deed back."""
        if not self.kept:
            raise NothingLeft()
        row, mark = self.kept.pop()
        self.books.undo_to(mark)
        self.undone.append(row)

    def again(self):
        """Do the deed again that was taken back last."""
        if not self.undone:
            raise NothingLeft()
        self.keep_done(self.undone.pop())

    def deeds(self):
        """The deeds that are kept, the eldest first."""
        return [row for row, mark in self.kept]

    def members(self):
        """The members in the order in which they entered."""
        return self.books.member_names()

    def purse(self, name):
        """The coins in the member's purse."""
        return self.books.purse_of(name)

    def circles(self):
        """The circles in the order of founding."""
        return self.books.table_names()

    def names(self, circle):
        """The names of the circle's seats."""
        return list(self.books.table_of(circle).sitters)

    def turn(self, circle):
        """The circle's open round."""
        return self.books.table_of(circle).circle.turn()

    def rests(self, circle):
        """How many rests are due in the circle."""
        return self.books.table_of(circle).circle.rests()

    def queue(self, circle):
        """The names of the waiting seats, the head first."""
        table = self.books.table_of(circle)
        return [table.sitters[at] for at in table.circle.queue()]

    def paid(self, circle):
        """The names that have paid in the open round, by seats."""
        table = self.books.table_of(circle)
        return [name for name, paid in zip(table.sitters, table.payments) if paid]

    def bids(self, circle):
        """The bids that stand, by seats."""
        return list(self.books.table_of(circle).offers)

    def reports(self, circle):
        """The reports of all closed rounds."""
        return self.books.table_of(circle).told_reports()

    def held(self, circle):
        """The coins in the circle's pledges, on its table and in its box."""
        return self.books.table_of(circle).holdings()

    def seat(self, circle, name):
        """The seven facts of the circle's seat."""
        table = self.books.table_of(circle)
        return table.circle.seat(table.seat_of(name))

    def coins(self):
        """The coins brought less taken, and where they are: in purses, in pledges, on tables, in boxes."""
        purses = sum([self.purse(name) for name in self.members()])
        holdings = [table.holdings() for table in self.books.all_tables()]
        pledges, tables, boxes = [sum([held[k] for held in holdings]) for k in range(3)]
        return (self.books.brought(), purses, pledges, tables, boxes)

    def twin(self):
        """Another house, alike; what is done to one is not done to the other."""
        other = House()
        other.books = self.books.twin()
        other.kept = list(self.kept)
        other.undone = list(self.undone)
        return other

    def keep_done(self, row):
        """Do the deed and keep it."""
        mark = len(self.books.trail)
        told = done(self.books, row)
        self.kept.append((row, mark))
        return told


def opened(deeds):
    """A new house in which these deeds were done."""
    house = House()
    for row in deeds:
        house.deed(row)
    return house
