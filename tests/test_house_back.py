"""susu.house: taking back and doing again, twins, pages, and long rows of deeds by chance (points 18 to 25)."""

import random
import unittest

from susu import errors
from susu.house import House, opened
from susu.notes import page_deeds, page_text
from tests.checks import holds_truth, refused
from tests.plain import PlainHouse
from tests.views import house_view, outcome, settled_house_view

NAMES = ["ann", "bob", "cid", "dan", "eve", "fay", "gus"]
CIRCLES = ["fund", "club", "pool", "ring"]
SEATS = (("ann", 20, 3), ("bob", 20, 3), ("cid", 20, 3))

ROW = [
    ("enter", "bob"), ("enter", "ann"), ("enter", "dan"), ("enter", "cid"), ("bring", "ann", 90), ("bring", "bob", 80),
    ("bring", "cid", 70), ("bring", "dan", 5), ("take", "dan", 5), ("part", "dan"), ("found", "fund", 10, True, SEATS),
    ("pay", "fund", "ann"), ("bid", "fund", "bob", 9), ("bid", "fund", "bob", 4), ("pay", "fund", "cid"),
    ("swap", "fund", "ann", "ann"), ("swap", "fund", "ann", "cid"), ("pay", "fund", "bob"), ("close", "fund"),
    ("enter", "dan"), ("lay", "fund", "cid", 6), ("pay", "fund", "ann"), ("bid", "fund", "ann", 0), ("close", "fund"),
    ("lay", "fund", "cid", 2), ("close", "fund"), ("take", "bob", 76), ("part", "bob"), ("enter", "bob"),
]


def done(row):
    """A house in which the deeds of the row were done, and its views ahead of each and at the end."""
    house, views = House(), []
    for deed in row:
        views.append(house_view(house))
        house.deed(deed)
    return house, views + [house_view(house)]


class BackTest(unittest.TestCase):
    def keeps(self, house, error, ask, *handed):
        view = house_view(house)
        refused(self, error, ask, *handed)
        self.assertEqual(house_view(house), view)

    def test_the_row_is_done(self):
        house, views = done(ROW)
        self.assertEqual(house.deeds(), ROW)
        self.assertEqual(house.members(), ["ann", "cid", "dan", "bob"])
        self.assertEqual(house.reports("fund"), [
            (1, "draw", 1, 26, 2, [], []), (2, "box", -1, 20, 0, [2], [1]), (3, "box", -1, 10, 0, [0], [1]),
        ])
        self.assertEqual([house.purse(name) for name in house.members()], [92, 72, 0, 0])
        self.assertEqual(house.coins(), (164, 164, 0, 0, 0))

    def test_nothing_left(self):
        house = House()
        self.keeps(house, errors.NothingLeft, house.back)
        self.keeps(house, errors.NothingLeft, house.again)
        house.enter("ann")
        self.keeps(house, errors.NothingLeft, house.again)
        self.assertIsNone(house.back())
        self.keeps(house, errors.NothingLeft, house.back)
        self.assertIsNone(house.again())
        self.keeps(house, errors.NothingLeft, house.again)
        self.assertEqual(house.members(), ["ann"])

    def test_all_the_way_back_and_again(self):
        house, views = done(ROW)
        for _ in range(2):
            for view in views[-2::-1]:
                house.back()
                self.assertEqual(house_view(house), view)
            self.keeps(house, errors.NothingLeft, house.back)
            for view in views[1:]:
                house.again()
                self.assertEqual(house_view(house), view)
            self.keeps(house, errors.NothingLeft, house.again)

    def test_each_step_back_and_again(self):
        house, views = done(ROW)
        for many in range(len(ROW), 0, -1):
            house.back()
            house.again()
            self.assertEqual(house_view(house), views[many])
            house.back()
            self.assertEqual(house_view(house), views[many - 1])

    def test_another_deed_ends_doing_again(self):
        for row in (("enter", "zed"), ("bring", "ann", 1), ("enter", "cid")):
            house, views = done(ROW[:4])
            house.back()
            house.back()
            house.deed(row)
            view = house_view(house)
            self.keeps(house, errors.NothingLeft, house.again)
            house.back()
            self.assertEqual(house_view(house), views[2])
            house.again()
            self.assertEqual(house_view(house), view)
            self.assertEqual(house.deeds(), ROW[:2] + [row])

    def test_the_very_deed_that_was_taken_back_is_another_deed(self):
        house, views = done(ROW[:4])
        house.back()
        house.back()
        house.deed(ROW[2])
        self.keeps(house, errors.NothingLeft, house.again)

    def test_a_refused_deed_is_not_kept_and_ends_nothing(self):
        house, views = done(ROW)
        for _ in range(12):
            house.back()
        for row, error in (
            (("enter", "ann"), errors.Known), (("enter", "Ann"), errors.BadName), (("part", "ann"), errors.Seated),
            (("take", "ann", 1000), errors.Short), (("close", "club"), errors.Unknown),
            (("pay", "fund", "ann"), errors.Paid), (("bid", "fund", "ann", 31), errors.BadNumber),
            (("found", "fund", 10, True, SEATS), errors.Known), (("found", "club", 10, True, SEATS[:1]), errors.BadNumber),
        ):
            self.keeps(house, error, house.deed, row)
        for view in views[-12:]:
            house.again()
            self.assertEqual(house_view(house), view)

    def test_refused_questions_end_nothing(self):
        house, views = done(ROW)
        house.back()
        self.keeps(house, errors.Unknown, house.purse, "nobody")
        self.keeps(house, errors.Unknown, house.held, "nothing")
        house.again()
        self.assertEqual(house_view(house), views[-1])

    def test_members_stand_in_their_order_behind_a_part_taken_back(self):
        house = opened([("enter", "cid"), ("enter", "ann"), ("enter", "bob"), ("part", "ann"), ("enter", "ann")])
        self.assertEqual(house.members(), ["cid", "bob", "ann"])
        house.back()
        self.assertEqual(house.members(), ["cid", "bob"])
        house.back()
        self.assertEqual(house.members(), ["cid", "ann", "bob"])
        house.enter("dan")
        house.part("cid")
        house.enter("cid")
        self.assertEqual(house.members(), ["ann", "bob", "dan", "cid"])
        house.back()
        house.back()
        self.assertEqual(house.members(), ["cid", "ann", "bob", "dan"])

    def test_told_deeds_are_the_askers(self):
        house, views = done(ROW)
        house.deeds().clear()
        house.deeds().append(("enter", "zed"))
        self.assertEqual(house_view(house), views[-1])
        house.back()
        self.assertEqual(house_view(house), views[-2])


class TwinTest(unittest.TestCase):
    def test_a_twin_is_alike_and_goes_back_and_again_alike(self):
        house, views = done(ROW)
        for _ in range(10):
            house.back()
        twin = house.twin()
        self.assertIsInstance(twin, House)
        self.assertEqual(settled_house_view(self, twin), views[-11])
        for view in views[-10:]:
            twin.again()
            self.assertEqual(house_view(twin), view)
        refused(self, errors.NothingLeft, twin.again)
        for view in views[-2::-1]:
            twin.back()
            self.assertEqual(house_view(twin), view)
        refused(self, errors.NothingLeft, twin.back)
        self.assertEqual(house_view(house), views[-11])
        for view in views[-10:]:
            house.again()
            self.assertEqual(house_view(house), view)

    def test_what_is_done_to_one_is_not_done_to_the_other(self):
        house, views = done(ROW[:14])
        twin = house.twin()
        view = house_view(twin)
        for deed in ROW[14:]:
            house.deed(deed)
            self.assertEqual(house_view(twin), view)
        last = house_view(house)
        for row in (("pay", "fund", "bob"), ("lay", "fund", "cid", 1), ("swap", "fund", "bob", "cid"),
                    ("bid", "fund", "cid", 2), ("enter", "zed"), ("close", "fund")):
            twin.deed(row)
        twin.back()
        self.assertEqual(house_view(house), last)
        self.assertEqual(twin.members(), ["bob", "ann", "cid", "zed"])
        house.back()
        twin.again()
        refused(self, errors.NothingLeft, twin.again)
        self.assertEqual(house_view(house), done(ROW[:-1])[1][-1])


class PageTest(unittest.TestCase):
    def alike_but_again(self, house):
        """A house opened with the page of this one's deeds."""
        page = page_text(house.deeds())
        self.assertEqual(page_deeds(page), house.deeds())
        other = opened(page_deeds(page))
        self.assertEqual(settled_house_view(self, other), house_view(house))
        refused(self, errors.NothingLeft, other.again)
        return other

    def test_houses_opened_with_a_page(self):
        house, views = done(ROW)
        self.alike_but_again(House())
        for many in range(len(ROW), 0, -1):
            other = self.alike_but_again(house)
            other.back()
            self.assertEqual(house_view(other), views[many - 1])
            house.back()


class WalkTest(unittest.TestCase):
    """Long rows of deeds, most done and many refused, beside the plain house."""

    def seats(self, chance, stake):
        names = chance.sample(NAMES, chance.randint(2, 5))
        many = len(names)
        turns = chance.sample(range(1, many + 1), many)
        seats = [(name, stake * (many - turn) + chance.choice([0, 0, 3]), chance.randint(turn, many))
                 for name, turn in zip(names, turns)]
        if chance.random() < 0.15:
            at = chance.randrange(many)
            wrong = [("zed", 0, many), seats[at - 1], (seats[at][0], -1, many), (seats[at][0], 100000, many),
                     (seats[at][0], 0, 1), (seats[at][0], 0, many + 1)]
            seats[at] = chance.choice(wrong)
        return tuple(seats)

    def some_deed(self, chance):
        name = chance.choice(NAMES) if chance.random() < 0.97 else chance.choice(["zed", "", "Ann"])
        circle = chance.choice(CIRCLES) if chance.random() < 0.97 else chance.choice(["none", "", "Fund", "abcdefghijklm"])
        kind = chance.choice(
            ["enter", "part", "bring", "bring", "take", "found", "found", "lay", "swap", "close"] + ["pay"] * 8 + ["bid"] * 3
        )
        if kind in ("enter", "part"):
            return (kind, name)
        if kind in ("bring", "take"):
            return (kind, name, chance.choice([1, 10, 40, 80, 500, 0, -1, 1000000001] if kind == "take" else [1, 30, 90, 0]))
        if kind == "found":
            stake = chance.choice([1, 5, 10, 10, 0])
            return (kind, circle, stake, chance.random() < 0.6, self.seats(chance, stake))
        if kind == "pay":
            return (kind, circle, name)
        if kind in ("bid", "lay"):
            return (kind, circle, name, chance.choice([0, 1, 3, 10, 20, 50, -1, 60]))
        if kind == "swap":
            return (kind, circle, name, chance.choice([name] + NAMES))
        return (kind, circle)

    def near_deed(self, chance, house):
        """A deed that fits the house as it stands, the most of the time."""
        parted = [name for name in house.members() if not house.purse(name)]
        if parted and chance.random() < 0.1:
            return ("part", chance.choice(parted))
        for circle in chance.sample(house.circles(), len(house.circles())):
            if house.turn(circle) > len(house.names(circle)):
                continue
            open_names = [name for name in house.names(circle) if name not in house.paid(circle)]
            if open_names and chance.random() < 0.8:
                return ("pay", circle, chance.choice(open_names))
            if len(house.queue(circle)) > 1 and chance.random() < 0.4:
                return ("swap", circle, *chance.sample(house.queue(circle), 2))
            if house.queue(circle) and chance.random() < 0.6:
                return ("bid", circle, chance.choice(house.queue(circle)), chance.randint(0, 20))
            return ("close", circle)
        return ("bring", chance.choice(NAMES), 60)

    def step(self, chance, house, plain):
        """One step in both; tells what came of it."""
        turn = chance.random()
        if turn < 0.1:
            many = chance.choice([1, 1, 2, 5])
            told = [outcome(house.back) for _ in range(many)]
            self.assertEqual(told, [outcome(plain.back) for _ in range(many)])
            return "back"
        if turn < 0.2:
            many = chance.choice([1, 1, 2, 5])
            told = [outcome(house.again) for _ in range(many)]
            self.assertEqual(told, [outcome(plain.again) for _ in range(many)])
            return "again"
        row = self.near_deed(chance, house) if chance.random() < 0.5 else self.some_deed(chance)
        ask = house.deed if chance.random() < 0.5 else lambda row: getattr(house, row[0])(*row[1:])
        told = outcome(ask, row)
        self.assertEqual(told, outcome(plain.deed, row), row)
        self.assertFalse(holds_truth(told[1]))
        return row[0] if told[0] == "told" else told[1].__name__

    def test_walks(self):
        chance = random.Random(58)
        seen = {}
        for walk in range(60):
            house, plain = House(), PlainHouse()
            for name in NAMES:
                for row in (("enter", name), ("bring", name, 150)):
                    house.deed(row)
                    plain.deed(row)
            for step in range(220):
                came = self.step(chance, house, plain)
                seen[came] = seen.get(came, 0) + 1
                view = house_view(plain)
                self.assertEqual(house_view(house), view)
                coins = view["coins"]
                self.assertEqual(coins[0], sum(coins[1:]))
                self.assertGreaterEqual(min(coins), 0)
                if chance.random() < 0.02:
                    house = house.twin()
            self.ends_alike(house)
        for came in ("enter", "part", "bring", "take", "found", "pay", "bid", "lay", "swap", "close", "back", "again"):
            self.assertGreater(seen.get(came, 0), 5, came)
        for came in ("BadName", "Known", "Unknown", "Seated", "Holding", "BadNumber", "Short", "Twice", "NoOrder", "NoSeat",
                     "Ended", "Fell", "Paid", "NoBids", "NotWaiting", "Uncovered"):
            self.assertGreater(seen.get(came, 0), 0, came)

    def ends_alike(self, house):
        """The kept deeds lead to the same house; back to the beginning and again to the end, too."""
        view = settled_house_view(self, house)
        other = opened(page_deeds(page_text(house.deeds())))
        self.assertEqual(house_view(other), view)
        many = len(house.deeds())
        for _ in range(many):
            house.back()
        self.assertEqual(house_view(house), house_view(House()))
        for _ in range(many):
            house.again()
        self.assertEqual(house_view(house), view)

    def test_a_long_row_goes_back_and_again(self):
        house = House()
        for name in NAMES:
            house.enter(name)
        for coins in range(1, 4001):
            house.bring(NAMES[coins % 7], coins)
        view = house_view(house)
        for _ in range(2):
            for _ in range(4000):
                house.back()
            self.assertEqual(house.coins(), (0, 0, 0, 0, 0))
            self.assertEqual(house.members(), NAMES)
            for _ in range(4000):
                house.again()
            self.assertEqual(house_view(house), view)


if __name__ == "__main__":
    unittest.main()
