"""Windows and rounds: covered draws, orders and bars (points 3 to 6)."""


def first_covered(stake, seats, pledge):
    """The least round in which a draw is covered by the pledge."""
    # The pledge bears so many later stakes, and a draw leaves one for each later round.
    return max(1, seats - pledge // stake)


def is_covered(stake, seats, pledge, turn):
    """Whether the pledge covers a draw in this round: it bears a stake for each later one."""
    return pledge >= stake * (seats - turn)


def within(windows, a, b):
    """The numbers of the windows that lie within a to b, growing."""
    return [at for at, (first, last) in enumerate(windows) if first >= a and last <= b]


def order_or_bar(windows):
    """The paper of the windows: their told order, or a bar where they have no order."""
    row = told_order(windows)
    if row is not None:
        return ("order", row)
    a, b = fullest_span(windows)
    return ("bar", a, b, within(windows, a, b))


def good_paper(windows, paper):
    """Whether the paper is any order of the windows, or a bar of them."""
    if paper[0] == "order":
        return is_order(windows, paper[1])
    return is_bar(windows, paper[1], paper[2], paper[3])


def told_order(windows):
    """The told order, or None where there is no order."""
    free = list(range(len(windows)))
    row = []
    for turn in range(1, len(windows) + 1):
        ready = [at for at in free if windows[at][0] <= turn]
        if not ready:
            return None
        chosen = min(ready, key=lambda k: (windows[k][1], k))
        if windows[chosen][1] < turn:
            return None
        free.remove(chosen)
        row.append(chosen)
    return row


def fullest_span(windows):
    """The pair of rounds with the most windows too many within it; at least one window."""
    # Windows without an order overfill some run of rounds (Hall's theorem), or one of them
    # holds no round and overfills a run of none; so the fullest pair is then a bar.
    turns = list(range(1, len(windows) + 1))
    spans = [(a, b) for a in turns for b in turns]
    return max(spans, key=lambda span: surplus(windows, span[0], span[1]))


def surplus(windows, a, b):
    """How many more windows than rounds lie within a to b."""
    return len(within(windows, a, b)) - rounds_between(a, b)


def rounds_between(a, b):
    """How many rounds there are from a to b."""
    return max(0, b - a + 1)


def is_order(windows, row):
    """Whether the row gives each window one round, within the window."""
    # Ahead of the windows' own test, for a number out of bounds is no window's number.
    if sorted(row) != list(range(len(windows))):
        return False
    return all([windows[at][0] <= turn <= windows[at][1] for turn, at in enumerate(row, start=1)])


def is_bar(windows, a, b, crowd):
    """Whether a, b and the crowd are a bar of the windows."""
    many = len(windows)
    if not (1 <= a <= many and 1 <= b <= many):
        return False
    inside = within(windows, a, b)
    # Only a growing list of some of the inside ones is the same as those that it names.
    return crowd == [at for at in inside if at in crowd] and len(crowd) > rounds_between(a, b)
