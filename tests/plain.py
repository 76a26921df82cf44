"""A circle and a house as the document tells them, slowly: all is reckoned anew from what was done.

They have the methods of the program's own circle and house, so that tests can ask both the same.
"""

from copy import deepcopy

from susu import errors


def first_queue(stake, pledges, wishes):
    """The told order of the seats' windows by points 3, 4 and 10, or None."""
    many = len(pledges)
    firsts = [min(r for r in range(1, many + 1) if pledge >= stake * (many - r)) for pledge in pledges]
    queue = []
    for turn in range(1, many + 1):
        free = [at for at in range(many) if at not in queue and firsts[at] <= turn]
        if not free or min(wishes[at] for at in free) < turn:
            return None
        queue.append(sorted(free, key=lambda at: (wishes[at], at))[0])
    return queue


class PlainCircle:
    """Points 10 to 16."""

    def __init__(self, stake, pledges, wishes, bidding=False):
        many = len(pledges)
        good = (
            1 <= stake <= 1000000 and 2 <= many <= 20 and len(wishes) == many
            and all(0 <= pledge <= 1000000000 for pledge in pledges) and all(1 <= wish <= many for wish in wishes)
        )
        if not good:
            raise errors.BadNumber()
        self.places = first_queue(stake, pledges, wishes)
        if self.places is None:
            raise errors.NoOrder(0, 0, [])
        self.stake, self.many, self.bidding = stake, many, bidding
        self.laid = list(pledges)
        self.rounds = []

    def pot(self):
        return self.stake * self.many

    def fell_in(self, at):
        return next((turn for turn, row in enumerate(self.rounds, 1) if at in row["fell"]), 0)

    def drew_in(self, at):
        return next((turn for turn, row in enumerate(self.rounds, 1) if row["drawer"] == at), 0)

    def waits(self, at):
        return not self.fell_in(at) and not self.drew_in(at)

    def pledge(self, at):
        return self.laid[at] - self.stake * sum(at in row["pledged"] for row in self.rounds)

    def turn(self):
        return len(self.rounds) + 1

    def ended(self):
        return len(self.rounds) == self.many

    def queue(self):
        return [at for at in self.places if self.waits(at)]

    def rests(self):
        return sum(len(row["fell"]) - (row["drawer"] == -1) for row in self.rounds)

    def box(self):
        came = sum(self.stake * len(row["payers"]) for row in self.rounds)
        return came - sum(self.pot() for row in self.rounds if row["drawer"] != -1)

    def known_seat(self, at):
        if at not in range(self.many):
            raise errors.NoSeat()

    def seat(self, at):
        self.known_seat(at)
        state = "waits" if self.waits(at) else "fell" if self.fell_in(at) else "drew"
        return (
            state, self.fell_in(at) + self.drew_in(at), self.pledge(at),
            self.stake * sum(at in row["payers"] for row in self.rounds),
            sum(row["coins"] for row in self.rounds if row["drawer"] == at),
            sum(row["share"] for row in self.rounds if at in row["payers"] and row["drawer"] != at),
            sum(at in row["pledged"] for row in self.rounds),
        )

    def owed(self, at):
        self.known_seat(at)
        return 0 if self.fell_in(at) else self.stake * (self.many - len(self.rounds))

    def expected(self, at):
        self.known_seat(at)
        if self.waits(at):
            return self.turn() + self.rests() + self.queue().index(at)
        return self.drew_in(at)

    def flow(self, at):
        self.known_seat(at)
        told = []
        for row in self.rounds:
            got = row["coins"] if row["drawer"] == at else row["share"] if at in row["payers"] else 0
            told.append(got - (self.stake if at in row["payers"] else 0))
        return told

    def close(self, paid, bids):
        if self.ended():
            raise errors.Ended()
        if len(paid) != self.many or len(bids) != self.many or any(not 0 <= k <= self.pot() for k in bids):
            raise errors.BadNumber()
        seats = range(self.many)
        fell = [at for at in seats if self.waits(at) and not paid[at]]
        pledged = [at for at in seats if self.drew_in(at) and not paid[at]]
        payers = [at for at in seats if not self.fell_in(at) and at not in fell]
        turn, coins, share, drawer = self.turn(), 0, 0, -1
        if self.rests() + len(fell) == 0:
            queue = self.queue()
            need = self.stake * (self.many - turn)
            counting = [at for at in queue if self.bidding and bids[at] >= 1 and self.pledge(at) >= need]
            drawer = sorted(counting, key=lambda at: (-bids[at], queue.index(at)))[0] if counting else queue[0]
            if counting and len(payers) > 1:
                share = bids[drawer] // (len(payers) - 1)
            coins = self.pot() - share * (len(payers) - 1)
        row = {"fell": fell, "pledged": pledged, "payers": payers, "drawer": drawer, "coins": coins, "share": share}
        self.rounds.append(row)
        if drawer == -1:
            return (turn, "box", -1, self.stake * len(payers), 0, list(fell), list(pledged))
        return (turn, "draw", drawer, coins, share, list(fell), list(pledged))

    def lay(self, at, coins):
        self.known_seat(at)
        if self.ended():
            raise errors.Ended()
        if not 1 <= coins <= 1000000000:
            raise errors.BadNumber()
        self.laid[at] += coins

    def swap(self, at, other):
        self.known_seat(at)
        self.known_seat(other)
        if self.ended():
            raise errors.Ended()
        if not self.waits(at) or not self.waits(other):
            raise errors.NotWaiting()
        if at == other:
            return
        for one, turn in ((at, self.expected(other)), (other, self.expected(at))):
            if self.pledge(one) < self.stake * (self.many - turn):
                raise errors.Uncovered()
        turned = {at: other, other: at}
        self.places = [turned.get(one, one) for one in self.places]

    def refunds(self):
        if not self.ended():
            raise errors.NotEnded()
        return [self.pledge(at) + (self.seat(at)[3] if self.fell_in(at) else 0) for at in range(self.many)]

    def twin(self):
        return deepcopy(self)


def is_name(text):
    return 1 <= len(text) <= 12 and all("a" <= sign <= "z" for sign in text)


class PlainHouse:
    """Points 18 to 23: every deed is kept with the whole of what stood ahead of it."""

    def __init__(self):
        self.purses, self.rooms, self.sum = {}, {}, 0
        self.past, self.future = [], []

    def state(self):
        return deepcopy((self.purses, self.rooms, self.sum))

    def deed(self, row):
        ahead = self.state()
        told = getattr(self, "do_" + row[0])(*row[1:])
        self.past.append((row, ahead))
        self.future = []
        return told

    def back(self):
        if not self.past:
            raise errors.NothingLeft()
        row, ahead = self.past.pop()
        self.future.append((row, self.state()))
        self.purses, self.rooms, self.sum = ahead

    def again(self):
        if not self.future:
            raise errors.NothingLeft()
        row, behind = self.future.pop()
        self.past.append((row, self.state()))
        self.purses, self.rooms, self.sum = behind

    def deeds(self):
        return [row for row, ahead in self.past]

    def do_enter(self, name):
        if not is_name(name):
            raise errors.BadName()
        if name in self.purses:
            raise errors.Known()
        self.purses[name] = 0

    def do_part(self, name):
        coins = self.purse(name)
        if any(name in room["names"] and not room["circle"].ended() for room in self.rooms.values()):
            raise errors.Seated()
        if coins:
            raise errors.Holding()
        del self.purses[name]

    def do_bring(self, name, coins):
        self.purse(name)
        if not 1 <= coins <= 1000000000:
            raise errors.BadNumber()
        self.purses[name] += coins
        self.sum += coins

    def do_take(self, name, coins):
        self.purse(name)
        if not 1 <= coins <= 1000000000:
            raise errors.BadNumber()
        self.spend(name, coins)
        self.sum -= coins

    def do_found(self, circle, stake, bidding, seats):
        if not is_name(circle):
            raise errors.BadName()
        if circle in self.rooms:
            raise errors.Known()
        names = [seat[0] for seat in seats]
        for name in names:
            self.purse(name)
        if any(names.count(name) > 1 for name in names):
            raise errors.Twice()
        fresh = PlainCircle(stake, [seat[1] for seat in seats], [seat[2] for seat in seats], bidding)
        if any(self.purses[name] < pledge for name, pledge, wish in seats):
            raise errors.Short()
        for name, pledge, wish in seats:
            self.purses[name] -= pledge
        self.rooms[circle] = {
            "names": names, "circle": fresh, "paid": [], "bids": [0] * len(names), "reports": [],
        }

    def do_pay(self, circle, name):
        room, at = self.room_and_seat(circle, name)
        self.not_ended(room)
        if room["circle"].fell_in(at):
            raise errors.Fell()
        if name in room["paid"]:
            raise errors.Paid()
        self.spend(name, room["circle"].stake)
        room["paid"].append(name)

    def do_bid(self, circle, name, coins):
        room, at = self.room_and_seat(circle, name)
        self.not_ended(room)
        if not room["circle"].bidding:
            raise errors.NoBids()
        if not room["circle"].waits(at):
            raise errors.NotWaiting()
        if not 0 <= coins <= room["circle"].pot():
            raise errors.BadNumber()
        room["bids"][at] = coins

    def do_lay(self, circle, name, coins):
        room, at = self.room_and_seat(circle, name)
        self.not_ended(room)
        if not 1 <= coins <= 1000000000:
            raise errors.BadNumber()
        self.spend(name, coins)
        room["circle"].lay(at, coins)

    def do_swap(self, circle, name, other):
        room, at = self.room_and_seat(circle, name)
        room["circle"].swap(at, self.room_and_seat(circle, other)[1])

    def do_close(self, circle):
        room = self.room(circle)
        drawn = [room["circle"].seat(at)[4:6] for at in range(len(room["names"]))]
        report = room["circle"].close([name in room["paid"] for name in room["names"]], room["bids"])
        for at, name in enumerate(room["names"]):
            self.purses[name] += sum(room["circle"].seat(at)[4:6]) - sum(drawn[at])
            if room["circle"].ended():
                self.purses[name] += room["circle"].refunds()[at]
        room["paid"], room["bids"] = [], [0] * len(room["names"])
        room["reports"].append(deepcopy(report))
        return report

    def not_ended(self, room):
        if room["circle"].ended():
            raise errors.Ended()

    def spend(self, name, coins):
        if self.purses[name] < coins:
            raise errors.Short()
        self.purses[name] -= coins

    def room(self, circle):
        if circle not in self.rooms:
            raise errors.Unknown()
        return self.rooms[circle]

    def room_and_seat(self, circle, name):
        room = self.room(circle)
        if name not in room["names"]:
            raise errors.NoSeat()
        return room, room["names"].index(name)

    def members(self):
        return list(self.purses)

    def purse(self, name):
        if name not in self.purses:
            raise errors.Unknown()
        return self.purses[name]

    def circles(self):
        return list(self.rooms)

    def names(self, circle):
        return list(self.room(circle)["names"])

    def turn(self, circle):
        return self.room(circle)["circle"].turn()

    def rests(self, circle):
        return self.room(circle)["circle"].rests()

    def queue(self, circle):
        return [self.room(circle)["names"][at] for at in self.room(circle)["circle"].queue()]

    def paid(self, circle):
        room = self.room(circle)
        return [name for name in room["names"] if name in room["paid"]]

    def bids(self, circle):
        return list(self.room(circle)["bids"])

    def reports(self, circle):
        return deepcopy(self.room(circle)["reports"])

    def held(self, circle):
        room = self.room(circle)
        seated = room["circle"]
        if seated.ended():
            return (0, 0, 0)
        return (
            sum(seated.pledge(at) for at in range(seated.many)), seated.stake * len(room["paid"]), seated.box(),
        )

    def seat(self, circle, name):
        room, at = self.room_and_seat(circle, name)
        return room["circle"].seat(at)

    def coins(self):
        parts = [self.held(circle) for circle in self.rooms]
        return (self.sum, sum(self.purses.values()), *[sum(part[k] for part in parts) for k in range(3)])
