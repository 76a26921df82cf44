"""All orders of few windows: counted, told by number, and numbered (point 7).

The windows that have the first rounds are held as one number, with bit k for window k.
"""

from susu.errors import BadNumber, TooMany
from susu.plan import is_order

MOST_WINDOWS = 8


def count_orders(windows):
    """How many orders the windows have."""
    refuse_many(windows)
    return ways_on(windows)[0]


def order_by_number(windows, number):
    """The order that has this number among all orders, the least one having nought."""
    refuse_many(windows)
    ways = ways_on(windows)
    if number < 0 or number >= ways[0]:
        raise BadNumber()
    row = []
    held = 0
    left = number
    while len(row) < len(windows):
        # The greatest one with no more orders ahead of it leads on: behind it, `left` would be passed.
        chosen = max([at for at in next_windows(windows, held) if lesser_ways(windows, ways, held, at) <= left])
        left -= lesser_ways(windows, ways, held, chosen)
        row.append(chosen)
        held = with_window(held, chosen)
    return row


def number_of_order(windows, row):
    """How many orders of the windows are less than this one."""
    refuse_many(windows)
    if not is_order(windows, row):
        raise BadNumber()
    ways = ways_on(windows)
    number = 0
    held = 0
    for at in row:
        number += lesser_ways(windows, ways, held, at)
        held = with_window(held, at)
    return number


def refuse_many(windows):
    """Refuse more windows than are counted."""
    if len(windows) > MOST_WINDOWS:
        raise TooMany()


def with_window(held, at):
    """The held windows and one more."""
    return held | (1 << at)


def next_windows(windows, held):
    """The windows, growing, that can take the first round that is not given out yet."""
    free = [at for at in range(len(windows)) if (held >> at) & 1 == 0]
    turn = len(windows) - len(free) + 1
    return [at for at in free if windows[at][0] <= turn <= windows[at][1]]


def ways_on(windows):
    """A list: for each number of held windows, in how many ways the other rounds can be given out."""
    full = (1 << len(windows)) - 1
    ways = [0] * full + [1]
    # Downwards, for what is held with one window more is a greater number.
    for held in range(full - 1, -1, -1):
        ways[held] = sum([ways[with_window(held, at)] for at in next_windows(windows, held)])
    return ways


def lesser_ways(windows, ways, held, at):
    """How many orders that begin with the held windows go on with a lesser window than this one."""
    return sum([ways[with_window(held, k)] for k in next_windows(windows, held) if k < at])
