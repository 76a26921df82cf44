"""A circle as it stands in the house: who sits there, and what lies there in the open round."""

from susu.circle import FELL
from susu.errors import NoSeat


class Table:
    """A circle with its seats' names, the open round's payments and bids, and the reports.

    A table and all that it holds is never changed: a deed makes a new one, so the old one can come back.
    """

    def __init__(self, sitters, circle, payments, offers, closed):
        self.sitters = sitters
        self.circle = circle
        self.payments = payments
        self.offers = offers
        self.closed = closed

    def seat_of(self, name):
        """The number of the seat of this name."""
        if name not in self.sitters:
            raise NoSeat()
        return self.sitters.index(name)

    def state_of(self, at):
        """Whether the seat waits, drew or fell."""
        return self.circle.seat(at)[0]

    def with_payment(self, at):
        """The table behind a stake paid by hand."""
        payments = [paid or k == at for k, paid in enumerate(self.payments)]
        return Table(self.sitters, self.circle, payments, self.offers, self.closed)

    def with_offer(self, at, coins):
        """The table behind a bid."""
        offers = [coins if k == at else offer for k, offer in enumerate(self.offers)]
        return Table(self.sitters, self.circle, self.payments, offers, self.closed)

    def with_circle(self, circle):
        """The table with its circle as it stands now."""
        return Table(self.sitters, circle, self.payments, self.offers, self.closed)

    def behind_round(self, circle, report):
        """The table at the beginning of the next round."""
        return opened_table(self.sitters, circle, self.closed + [report_copy(report)])

    def told_reports(self):
        """The reports of all closed rounds, with lists of their own."""
        return [report_copy(report) for report in self.closed]

    def holdings(self):
        """The coins in pledges, on the table and in the box."""
        if self.circle.ended():
            return (0, 0, 0)
        pledges = sum([self.circle.seat(at)[2] for at in range(len(self.sitters))])
        return (pledges, self.circle.stake * self.payments.count(True), self.circle.box())

    def payouts(self):
        """The coins that go to each seat as the last round is closed."""
        drawer, coins, share = self.closed[-1][2:5]
        gains = [0 if self.state_of(at) == FELL else share for at in range(len(self.sitters))]
        if drawer >= 0:
            gains[drawer] = coins
        if not self.circle.ended():
            return gains
        return [gain + refund for gain, refund in zip(gains, self.circle.refunds())]


def opened_table(sitters, circle, closed):
    """A table at the beginning of a round: nothing is paid, and no bid stands."""
    return Table(sitters, circle, [False] * len(sitters), [0] * len(sitters), closed)


def report_copy(report):
    """The same report with lists of its own."""
    return (*report[:5], list(report[5]), list(report[6]))
