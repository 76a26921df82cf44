"""Sums: nets of debts, transfers that settle them, and the worth of coins (points 8 and 9)."""

from susu.errors import BadNumber, Uneven

MOST_TIMES = 1000


def net_rows(debts):
    """The net of each name that is named, in the order of the alphabet."""
    nets = {}
    for giver, getter, coins in debts:
        nets[giver] = nets.get(giver, 0) - coins
        nets[getter] = nets.get(getter, 0) + coins
    return [(name, nets[name]) for name in sorted(nets)]


def transfers(nets):
    """The transfers that settle the nets: always the first that lacks to the first that is to get."""
    left = [net for name, net in nets]
    if sum(left) != 0:
        raise Uneven()
    getters = [at for at, net in enumerate(left) if net > 0]
    served = 0
    told = []
    for payer, (name, net) in enumerate(nets):
        # All nets together are nought, so there is a getter as long as somebody lacks.
        while left[payer] < 0:
            getter = getters[served]
            coins = min(-left[payer], left[getter])
            told.append((name, nets[getter][0], coins))
            left[payer] += coins
            left[getter] -= coins
            if left[getter] == 0:
                served += 1
    return told


def worth(row, up, down):
    """What the coins by round are worth, each raised by the rounds behind it and ahead of it."""
    if not (1 <= up <= MOST_TIMES and 1 <= down <= MOST_TIMES):
        raise BadNumber()
    total = 0
    ahead = 1
    for coins in row:
        total = total * up + coins * ahead
        ahead = ahead * down
    return total
