"""What each deed refuses and does (points 18 to 20).

Whatever a deed refuses, it refuses ahead of its first change of the books.
"""

from susu.circle import FELL, MOST_COINS, WAITS, Circle
from susu.errors import BadName, BadNumber, Ended, Fell, Holding, Known, NoBids, NotWaiting, Paid, Seated, Twice
from susu.names import is_name
from susu.table import opened_table


def enter(books, name):
    """A member enters."""
    if not is_name(name):
        raise BadName()
    if books.has_member(name):
        raise Known()
    books.add_member(name)


def part(books, name):
    """A member parts."""
    coins = books.purse_of(name)
    if any([name in table.sitters and not table.circle.ended() for table in books.all_tables()]):
        raise Seated()
    if coins > 0:
        raise Holding()
    books.drop_member(name)


def bring(books, name, coins):
    """A member brings coins into the purse."""
    books.purse_of(name)
    refuse_beyond(coins, 1, MOST_COINS)
    books.add_coins(name, coins)
    books.add_brought(coins)


def take(books, name, coins):
    """A member takes coins out of the purse."""
    books.purse_of(name)
    refuse_beyond(coins, 1, MOST_COINS)
    books.refuse_short(name, coins)
    books.add_coins(name, -coins)
    books.add_brought(-coins)


def found(books, circle, stake, bidding, seats):
    """Members found a circle, and lay their pledges."""
    if not is_name(circle):
        raise BadName()
    if books.has_table(circle):
        raise Known()
    sitters = [seat[0] for seat in seats]
    for name in sitters:
        books.purse_of(name)
    if len(set(sitters)) < len(sitters):
        raise Twice()
    opening = Circle(stake, [seat[1] for seat in seats], [seat[2] for seat in seats], bidding)
    for name, pledge, wish in seats:
        books.refuse_short(name, pledge)
    for name, pledge, wish in seats:
        books.add_coins(name, -pledge)
    books.put_table(circle, opened_table(sitters, opening, []))


def pay(books, circle, name):
    """A seat pays its stake by hand."""
    table = books.table_of(circle)
    at = table.seat_of(name)
    refuse_ended(table)
    if table.state_of(at) == FELL:
        raise Fell()
    if table.payments[at]:
        raise Paid()
    books.refuse_short(name, table.circle.stake)
    books.add_coins(name, -table.circle.stake)
    books.put_table(circle, table.with_payment(at))


def bid(books, circle, name, coins):
    """A waiting seat bids, or takes its bid away."""
    table = books.table_of(circle)
    at = table.seat_of(name)
    refuse_ended(table)
    if not table.circle.bidding:
        raise NoBids()
    if table.state_of(at) != WAITS:
        raise NotWaiting()
    refuse_beyond(coins, 0, table.circle.pot())
    books.put_table(circle, table.with_offer(at, coins))


def lay(books, circle, name, coins):
    """A member lays more to the seat's pledge."""
    table = books.table_of(circle)
    after = table.circle.twin()
    after.lay(table.seat_of(name), coins)
    books.refuse_short(name, coins)
    books.add_coins(name, -coins)
    books.put_table(circle, table.with_circle(after))


def swap(books, circle, name, other):
    """Two waiting seats exchange their places."""
    table = books.table_of(circle)
    after = table.circle.twin()
    after.swap(table.seat_of(name), table.seat_of(other))
    books.put_table(circle, table.with_circle(after))


def close(books, circle):
    """The open round is closed, and its coins go to whom they are due; tells the report."""
    table = books.table_of(circle)
    after = table.circle.twin()
    report = after.close(table.payments, table.offers)
    next_table = table.behind_round(after, report)
    books.put_table(circle, next_table)
    for name, coins in zip(next_table.sitters, next_table.payouts()):
        books.add_coins(name, coins)
    return report


def refuse_ended(table):
    """Refuse a circle that has ended."""
    if table.circle.ended():
        raise Ended()


def refuse_beyond(coins, least, most):
    """Refuse coins beyond these bounds."""
    if not least <= coins <= most:
        raise BadNumber()


ACTIONS = {
    "enter": enter,
    "part": part,
    "bring": bring,
    "take": take,
    "found": found,
    "pay": pay,
    "bid": bid,
    "lay": lay,
    "swap": swap,
    "close": close,
}


def done(books, row):
    """Do the deed in the books, and tell what it tells."""
    action = ACTIONS[row[0]]
    rest = row[1:]
    return action(books, *rest)
