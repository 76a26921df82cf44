"""What the house keeps: members and circles by name, and the coins that were brought in."""

from susu.errors import Short, Unknown

MEMBERS = "members"
TABLES = "tables"
SUMS = "sums"
BROUGHT = "brought"


class Books:
    """Shelves of things by name. Each change is noted in the trail, so that it can be undone.

    A member is a pair: a number that is greater for who entered later, and the coins in the purse.
    """

    def __init__(self):
        self.shelves = {MEMBERS: {}, TABLES: {}, SUMS: {BROUGHT: 0}}
        self.trail = []

    def put(self, shelf, name, thing):
        """Change what stands under the name (None: nothing), and note what stood there."""
        self.trail.append((shelf, name, self.shelves[shelf].get(name)))
        set_down(self.shelves[shelf], name, thing)

    def undo_to(self, mark):
        """Undo all changes but the first so many."""
        while len(self.trail) > mark:
            shelf, name, before = self.trail.pop()
            set_down(self.shelves[shelf], name, before)

    def has_member(self, name):
        """Whether a member of this name is there."""
        return name in self.shelves[MEMBERS]

    def has_table(self, circle):
        """Whether a circle of this name is there."""
        return circle in self.shelves[TABLES]

    def purse_of(self, name):
        """The coins in the member's purse."""
        if not self.has_member(name):
            raise Unknown()
        return self.shelves[MEMBERS][name][1]

    def table_of(self, circle):
        """The table of the circle."""
        if not self.has_table(circle):
            raise Unknown()
        return self.shelves[TABLES][circle]

    def brought(self):
        """The coins that were brought less those that were taken."""
        return self.shelves[SUMS][BROUGHT]

    def member_names(self):
        """The members, who entered first ahead."""
        people = self.shelves[MEMBERS]
        return sorted(people, key=lambda name: people[name][0])

    def table_names(self):
        """The circles in the order of founding."""
        return list(self.shelves[TABLES])

    def all_tables(self):
        """The tables of all circles."""
        return list(self.shelves[TABLES].values())

    def add_member(self, name):
        """Let a member enter with an empty purse."""
        # The trail grows with each change, so who enters later gets a greater number.
        self.put(MEMBERS, name, (len(self.trail), 0))

    def drop_member(self, name):
        """Let a member go."""
        self.put(MEMBERS, name, None)

    def put_table(self, circle, table):
        """Set down the circle's table as it stands now."""
        self.put(TABLES, circle, table)

    def add_coins(self, name, coins):
        """Put coins into the member's purse; with less than nought, take them out of it."""
        number, held = self.shelves[MEMBERS][name]
        self.put(MEMBERS, name, (number, held + coins))

    def add_brought(self, coins):
        """Note that coins came into the house; with less than nought, that they left it."""
        self.put(SUMS, BROUGHT, self.brought() + coins)

    def refuse_short(self, name, coins):
        """Refuse to take more out of a purse than it holds."""
        if self.purse_of(name) < coins:
            raise Short()

    def twin(self):
        """Other books, alike; what is changed in one is not changed in the other."""
        other = Books()
        other.shelves = {shelf: dict(self.shelves[shelf]) for shelf in self.shelves}
        other.trail = list(self.trail)
        return other


def set_down(shelf, name, thing):
    """Let the thing stand under the name; None leaves nothing there."""
    if thing is None:
        del shelf[name]
    else:
        shelf[name] = thing
