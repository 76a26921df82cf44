"""The kinds of refusal, each straight under SusuError."""


class SusuError(ValueError):
    """Any refusal."""


class BadName(SusuError):
    """A name that is not 1 to 12 small letters."""


class BadNumber(SusuError):
    """A number, or a count of things, beyond its bounds."""


class Known(SusuError):
    """A name that is there already."""


class Unknown(SusuError):
    """A name that is not there."""


class Twice(SusuError):
    """A name that stands twice among the seats."""


class Seated(SusuError):
    """A member who sits in a circle that has not ended."""


class Holding(SusuError):
    """A member whose purse still holds coins."""


class Short(SusuError):
    """A purse that holds less than is asked of it."""


class NoSeat(SusuError):
    """No seat of the circle."""


class Ended(SusuError):
    """A circle that has ended."""


class NotEnded(SusuError):
    """A circle that has not ended yet."""


class Fell(SusuError):
    """A seat that has fallen."""


class Paid(SusuError):
    """A seat that has paid in this round already."""


class NoBids(SusuError):
    """A circle without bidding."""


class NotWaiting(SusuError):
    """A seat that does not wait."""


class Uncovered(SusuError):
    """An exchange that would leave a draw uncovered."""


class TooMany(SusuError):
    """More windows than can be counted."""


class Uneven(SusuError):
    """Nets that do not come to nought together."""


class NoDeed(SusuError):
    """A text that is no written deed, or no page of them."""


class NothingLeft(SusuError):
    """Nothing to take back, or nothing to do again."""


class NoOrder(SusuError):
    """Windows that have no order; it bears the rounds and the windows of a bar (point 5)."""

    def __init__(self, early, late, crowd):
        SusuError.__init__(self, "the windows have no order")
        self.early = early
        self.late = late
        self.crowd = list(crowd)
