"""All that can be asked of a circle or a house, and what a call comes to."""

from susu.errors import SusuError
from tests.checks import holds_truth, spoil


def outcome(ask, *handed):
    """What the call tells, or the kind of its refusal."""
    try:
        return ("told", ask(*handed))
    except SusuError as refusal:
        return ("refused", type(refusal))


def circle_view(circle, many):
    """All answers of a circle of so many seats."""
    seats = [(circle.seat(at), circle.owed(at), circle.expected(at), circle.flow(at)) for at in range(many)]
    return {
        "turn": circle.turn(), "ended": circle.ended(), "queue": circle.queue(), "rests": circle.rests(),
        "box": circle.box(), "seats": seats, "refunds": outcome(circle.refunds),
    }


def house_view(house):
    """All answers of a house."""
    rooms = {}
    for circle in house.circles():
        rooms[circle] = {
            "names": house.names(circle), "turn": house.turn(circle), "rests": house.rests(circle),
            "queue": house.queue(circle), "paid": house.paid(circle), "bids": house.bids(circle),
            "reports": house.reports(circle), "held": house.held(circle),
            "seats": [house.seat(circle, name) for name in house.names(circle)],
        }
    return {
        "members": house.members(), "purses": [house.purse(name) for name in house.members()],
        "circles": house.circles(), "rooms": rooms, "coins": house.coins(), "deeds": house.deeds(),
    }


def told_parts(value):
    """All values within an answer, dicts opened."""
    if isinstance(value, dict):
        return [part for name in value for part in told_parts(value[name])]
    return [value]


def settled_circle_view(case, circle, many):
    """The view, checked: asked again it is the same, whatever is done to the lists that were told."""
    first, again = circle_view(circle, many), circle_view(circle, many)
    case.assertEqual(first, again)
    for part in told_parts(first):
        spoil(part)
    case.assertEqual(circle_view(circle, many), again)
    case.assertFalse(any(holds_truth(again[name]) for name in again if name != "ended"), again)
    case.assertIsInstance(again["ended"], bool)
    return again


def settled_house_view(case, house):
    """The view, checked in the same way."""
    first, again = house_view(house), house_view(house)
    case.assertEqual(first, again)
    for part in told_parts(first):
        spoil(part)
    case.assertEqual(house_view(house), again)
    case.assertFalse(any(holds_truth(part) for name in again if name != "deeds" for part in told_parts(again[name])))
    return again
