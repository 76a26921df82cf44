"""Whether a row of reports follows from an opening (point 17)."""

from susu.plan import is_covered


class Ledger:
    """Where a circle stands by the reports that were taken in so far."""

    def __init__(self, stake, pledges, queue, bidding):
        self.stake = stake
        self.pledges_left = list(pledges)
        self.line = list(queue)
        self.bidding = bidding
        self.drawers = []
        self.open_round = 1
        self.rests_due = 0

    def follows(self, report):
        """Whether the report can be the next one."""
        turn, kind, drawer, coins, share, fallen, pledged = report
        if turn != self.open_round or turn > len(self.pledges_left):
            return False
        if not (grows(fallen) and all([at in self.line for at in fallen])):
            return False
        if not (grows(pledged) and all([self.pledge_can_pay(at) for at in pledged])):
            return False
        if self.rests_due + len(fallen) > 0:
            return (kind, drawer, coins, share) == ("box", -1, self.stake * self.payers(fallen), 0)
        return kind == "draw" and self.can_draw(drawer, share) and coins == self.draw_coins(share)

    def pledge_can_pay(self, at):
        """Whether the seat drew earlier and its pledge still bears a stake."""
        return at in self.drawers and self.pledges_left[at] >= self.stake

    def payers(self, fallen):
        """How many seats pay in a round in which these fall."""
        return len(self.line) + len(self.drawers) - len(fallen)

    def can_draw(self, drawer, share):
        """Whether the seat may draw in a round in which nobody falls, and leave this share to each other one."""
        if drawer not in self.line:
            return False
        if not is_covered(self.stake, len(self.pledges_left), self.pledges_left[drawer], self.open_round):
            return False
        if not self.bidding:
            return drawer == self.line[0] and share == 0
        if self.payers([]) == 1:
            return share == 0
        return share >= 0 and self.draw_coins(share) >= 0

    def draw_coins(self, share):
        """What a drawer gets who leaves this share to each other seat that has not fallen."""
        return self.stake * len(self.pledges_left) - share * (self.payers([]) - 1)

    def take_in(self, report):
        """Go on by a report that follows."""
        turn, kind, drawer, coins, share, fallen, pledged = report
        for at in pledged:
            self.pledges_left[at] -= self.stake
        self.rests_due += len(fallen)
        if kind == "box":
            self.rests_due -= 1
        else:
            self.drawers.append(drawer)
        self.line = [at for at in self.line if at not in fallen and at != drawer]
        self.open_round = turn + 1


def first_wrong(stake, pledges, queue, bidding, reports):
    """The number of the first report that does not follow, or -1 where all follow."""
    ledger = Ledger(stake, pledges, queue, bidding)
    for number, report in enumerate(reports):
        if not ledger.follows(report):
            return number
        ledger.take_in(report)
    return -1


def grows(row):
    """Whether each number of the row is greater than the one ahead of it."""
    return all([row[at - 1] < row[at] for at in range(1, len(row))])
