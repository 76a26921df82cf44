"""A circle: seats that pay, draw or fall, round by round (points 10 to 16)."""

from susu.errors import BadNumber, Ended, NoOrder, NoSeat, NotEnded, NotWaiting, Uncovered
from susu.plan import first_covered, is_covered, order_or_bar

MOST_STAKE = 1000000
LEAST_SEATS = 2
MOST_SEATS = 20
MOST_COINS = 1000000000

WAITS = "waits"
DREW = "drew"
FELL = "fell"


class Seat:
    """What a circle keeps of one seat."""

    def __init__(self, pledge):
        self.state = WAITS
        self.since = 0
        self.pledge = pledge
        self.given = 0
        self.drawn = 0
        self.shared = 0
        self.pledge_stakes = 0

    def twin(self):
        """Another seat, alike."""
        other = Seat(self.pledge)
        other.state = self.state
        other.since = self.since
        other.given = self.given
        other.drawn = self.drawn
        other.shared = self.shared
        other.pledge_stakes = self.pledge_stakes
        return other


class Circle:
    """A circle from its opening to its end."""

    def __init__(self, stake, pledges, wishes, bidding=False):
        refuse_opening(stake, pledges, wishes)
        self.line = first_queue(stake, pledges, wishes)
        self.stake = stake
        self.first_pledges = list(pledges)
        self.wishes = list(wishes)
        self.bidding = bidding
        self.seats = [Seat(pledge) for pledge in pledges]
        self.open_round = 1
        self.rests_due = 0
        self.chest = 0
        self.flows = []

    def turn(self):
        """The open round, or the number of seats and one behind the end."""
        return self.open_round

    def ended(self):
        """Whether the last round is closed."""
        return self.open_round > len(self.seats)

    def queue(self):
        """The waiting seats, the head first."""
        return list(self.line)

    def rests(self):
        """How many rests are due."""
        return self.rests_due

    def box(self):
        """The coins in the box."""
        return self.chest

    def pot(self):
        """What a draw takes out of the box."""
        return self.stake * len(self.seats)

    def seat(self, at):
        """The seven facts of a seat."""
        seat = self.seat_at(at)
        return (seat.state, seat.since, seat.pledge, seat.given, seat.drawn, seat.shared, seat.pledge_stakes)

    def owed(self, at):
        """What the seat owes from the open round on."""
        if self.seat_at(at).state == FELL:
            return 0
        return self.stake * (len(self.seats) + 1 - self.open_round)

    def expected(self, at):
        """The round in which the seat draws if nobody falls or bids from now on, or drew; nought if it fell."""
        seat = self.seat_at(at)
        if seat.state == WAITS:
            return self.open_round + self.rests_due + self.line.index(at)
        return seat.since if seat.state == DREW else 0

    def flow(self, at):
        """What the seat got less what it paid, by closed rounds."""
        self.seat_at(at)
        return [row[at] for row in self.flows]

    def close(self, paid, bids):
        """Close the open round, and tell its report."""
        if self.ended():
            raise Ended()
        self.refuse_lists(paid, bids)
        standing = self.standings()
        fallen = self.unpaid(WAITS, paid)
        pledged = self.unpaid(DREW, paid)
        self.let_fall(fallen)
        self.charge_pledges(pledged)
        payers = self.collect()
        result = self.rest(payers) if self.rests_due > 0 else self.draw(payers, bids)
        self.flows.append([now - before for now, before in zip(self.standings(), standing)])
        report = (self.open_round, *result, fallen, pledged)
        self.open_round += 1
        return report

    def lay(self, at, coins):
        """Lay more to the seat's pledge."""
        seat = self.seat_at(at)
        if self.ended():
            raise Ended()
        if not 1 <= coins <= MOST_COINS:
            raise BadNumber()
        seat.pledge += coins

    def swap(self, at, other):
        """Exchange the places of two waiting seats in the queue."""
        states = [self.seat_at(at).state, self.seat_at(other).state]
        if self.ended():
            raise Ended()
        if states != [WAITS, WAITS]:
            raise NotWaiting()
        if at != other and not (self.covers(at, self.expected(other)) and self.covers(other, self.expected(at))):
            raise Uncovered()
        place, place_of_other = self.line.index(at), self.line.index(other)
        self.line[place], self.line[place_of_other] = other, at

    def refunds(self):
        """What goes back to each seat at the end."""
        if not self.ended():
            raise NotEnded()
        return [seat.pledge + (seat.given if seat.state == FELL else 0) for seat in self.seats]

    def twin(self):
        """Another circle, alike; what is done to one is not done to the other."""
        other = Circle(self.stake, self.first_pledges, self.wishes, self.bidding)
        other.line = list(self.line)
        other.seats = [seat.twin() for seat in self.seats]
        other.open_round = self.open_round
        other.rests_due = self.rests_due
        other.chest = self.chest
        # The rows of closed rounds are never changed, so the twins share them.
        other.flows = list(self.flows)
        return other

    def seat_at(self, at):
        """What is kept of the seat of this number."""
        if not 0 <= at < len(self.seats):
            raise NoSeat()
        return self.seats[at]

    def seats_of(self, numbers):
        """What is kept of the seats of these numbers."""
        return [self.seats[at] for at in numbers]

    def covers(self, at, turn):
        """Whether the seat's pledge, as it is now, covers a draw in this round."""
        return is_covered(self.stake, len(self.seats), self.seats[at].pledge, turn)

    def standings(self):
        """What each seat has got less what it has paid up to now."""
        return [seat.drawn + seat.shared - seat.given for seat in self.seats]

    def unpaid(self, state, paid):
        """The seats of this state that did not pay by hand, growing."""
        return [at for at, seat in enumerate(self.seats) if seat.state == state and not paid[at]]

    def refuse_lists(self, paid, bids):
        """Refuse what cannot close a round."""
        if len(paid) != len(self.seats) or len(bids) != len(self.seats):
            raise BadNumber()
        if not all([0 <= coins <= self.pot() for coins in bids]):
            raise BadNumber()

    def let_fall(self, fallen):
        """Let seats fall out of the queue; a rest comes to be due for each."""
        for at in fallen:
            self.leave_queue(at, FELL)
        self.rests_due += len(fallen)

    def leave_queue(self, at, state):
        """Let a waiting seat draw or fall in the open round."""
        seat = self.seats[at]
        seat.state = state
        seat.since = self.open_round
        self.line.remove(at)

    def charge_pledges(self, pledged):
        """Take a stake out of each of these seats' pledges."""
        for seat in self.seats_of(pledged):
            seat.pledge -= self.stake
            seat.pledge_stakes += 1

    def collect(self):
        """Put the stakes of all seats that have not fallen into the box, and tell these seats."""
        payers = [at for at, seat in enumerate(self.seats) if seat.state != FELL]
        for seat in self.seats_of(payers):
            seat.given += self.stake
        self.chest += self.stake * len(payers)
        return payers

    def rest(self, payers):
        """Leave what was paid in the box; tells the middle of the report."""
        self.rests_due -= 1
        return ("box", -1, self.stake * len(payers), 0)

    def draw(self, payers, bids):
        """Let a waiting seat draw the pot; tells the middle of the report."""
        drawer, bid = self.best_bid(bids)
        others = [at for at in payers if at != drawer]
        share = bid // len(others) if others else 0
        coins = self.pot() - share * len(others)
        self.chest -= self.pot()
        self.leave_queue(drawer, DREW)
        winner = self.seats[drawer]
        winner.drawn = coins
        for seat in self.seats_of(others):
            seat.shared += share
        return ("draw", drawer, coins, share)

    def best_bid(self, bids):
        """The seat that draws in the open round, and the bid that it gives up."""
        counting = []
        if self.bidding:
            counting = [at for at in self.line if bids[at] > 0 and self.covers(at, self.open_round)]
        if not counting:
            return self.line[0], 0
        # Of equal bids max takes the first one, which stands earlier in the queue.
        best = max(counting, key=lambda k: bids[k])
        return best, bids[best]


def refuse_opening(stake, pledges, wishes):
    """Refuse numbers with which no circle can be opened."""
    many = len(pledges)
    if not (1 <= stake <= MOST_STAKE and LEAST_SEATS <= many <= MOST_SEATS and len(wishes) == many):
        raise BadNumber()
    if not all([0 <= pledge <= MOST_COINS for pledge in pledges]):
        raise BadNumber()
    if not all([1 <= wish <= many for wish in wishes]):
        raise BadNumber()


def first_queue(stake, pledges, wishes):
    """The told order of the seats' windows."""
    windows = [(first_covered(stake, len(pledges), pledge), wish) for pledge, wish in zip(pledges, wishes)]
    paper = order_or_bar(windows)
    if paper[0] == "bar":
        raise NoOrder(paper[1], paper[2], paper[3])
    return paper[1]
