"""susu.house: each deed done and refused, by hand (points 18 to 21 and 23)."""

import unittest

from susu import errors
from susu.house import House, opened
from tests.checks import holds_truth, refused
from tests.views import house_view, settled_house_view

MOST = 1000000000


class HouseTest(unittest.TestCase):
    def house(self, *names, coins=100):
        """A house of members with so many coins each."""
        house = House()
        for name in names:
            house.enter(name)
            house.bring(name, coins)
        return house

    def fund(self, bidding=False, coins=100):
        """A house with a circle of three: ann, bob and cid, each covered from the first round on."""
        house = self.house("ann", "bob", "cid", coins=coins)
        house.found("fund", 10, bidding, [("ann", 20, 3), ("bob", 20, 3), ("cid", 20, 3)])
        return house

    def pay_all(self, house, names, circle="fund"):
        for name in names:
            house.pay(circle, name)

    def ended_fund(self):
        house = self.fund()
        for _ in range(3):
            self.pay_all(house, ["ann", "bob", "cid"])
            house.close("fund")
        return house

    def keeps(self, house, error, *row):
        """The deed is refused, as a tuple and by its method, and changes nothing."""
        view = house_view(house)
        refused(self, error, house.deed, row)
        refused(self, error, getattr(house, row[0]), *row[1:])
        self.assertEqual(house_view(house), view)

    def purses(self, house):
        return [house.purse(name) for name in house.members()]


class MembersTest(HouseTest):
    def test_a_new_house(self):
        self.assertEqual(settled_house_view(self, House()), {
            "members": [], "purses": [], "circles": [], "rooms": {}, "coins": (0, 0, 0, 0, 0), "deeds": [],
        })

    def test_enter(self):
        house = House()
        self.assertIsNone(house.enter("bob"))
        self.assertIsNone(house.deed(("enter", "ann")))
        self.assertEqual((house.members(), house.purse("ann")), (["bob", "ann"], 0))
        for name in ("", "abcdefghijklm", "Ann", "a b", "ann1", "ann\n", "-", "a.b", " ann"):
            self.keeps(house, errors.BadName, "enter", name)
        house.enter("abcdefghijkl")
        house.enter("z")
        for name in ("ann", "bob", "z"):
            self.keeps(house, errors.Known, "enter", name)
        self.assertEqual(house.members(), ["bob", "ann", "abcdefghijkl", "z"])

    def test_bring_and_take(self):
        house = self.house("ann", "bob", coins=1)
        self.assertIsNone(house.bring("ann", MOST))
        self.assertIsNone(house.take("ann", 3))
        self.assertEqual((self.purses(house), house.coins()), ([MOST - 2, 1], (MOST - 1, MOST - 1, 0, 0, 0)))
        house.take("bob", 1)
        self.assertEqual(self.purses(house), [MOST - 2, 0])
        house.bring("ann", 2)
        house.take("ann", MOST)
        self.assertEqual(house.coins(), (0, 0, 0, 0, 0))

    def test_bring_is_refused(self):
        house = self.house("ann")
        for coins in (1, 0, -1):
            self.keeps(house, errors.Unknown, "bring", "bob", coins)
        for coins in (0, -1, MOST + 1, 10 ** 30):
            self.keeps(house, errors.BadNumber, "bring", "ann", coins)

    def test_take_is_refused(self):
        house = self.house("ann")
        for coins in (1, 0, -1):
            self.keeps(house, errors.Unknown, "take", "bob", coins)
        for coins in (0, -1, MOST + 1, 10 ** 30):
            self.keeps(house, errors.BadNumber, "take", "ann", coins)
        for coins in (101, MOST):
            self.keeps(house, errors.Short, "take", "ann", coins)

    def test_part(self):
        house = self.house("ann", "bob", "cid")
        self.keeps(house, errors.Unknown, "part", "dan")
        self.keeps(house, errors.Holding, "part", "ann")
        house.take("ann", 99)
        self.keeps(house, errors.Holding, "part", "ann")
        house.take("ann", 1)
        self.assertIsNone(house.part("ann"))
        self.assertEqual(house.members(), ["bob", "cid"])
        self.keeps(house, errors.Unknown, "part", "ann")
        refused(self, errors.Unknown, house.purse, "ann")
        house.enter("ann")
        self.assertEqual((house.members(), house.purse("ann")), (["bob", "cid", "ann"], 0))

    def test_part_of_a_seated_member(self):
        house = self.fund()
        self.keeps(house, errors.Seated, "part", "ann")
        house.take("ann", 80)
        self.keeps(house, errors.Seated, "part", "ann")
        house.close("fund")
        self.assertEqual(house.seat("fund", "ann")[0], "fell")
        self.keeps(house, errors.Seated, "part", "ann")
        house.close("fund")
        house.close("fund")
        self.keeps(house, errors.Holding, "part", "ann")
        house.take("ann", 20)
        house.part("ann")
        self.assertEqual(house.members(), ["bob", "cid"])

    def test_purse_of_nobody(self):
        house = self.house("ann")
        for name in ("bob", "", "fund"):
            refused(self, errors.Unknown, house.purse, name)


class FoundTest(HouseTest):
    SEATS = (("ann", 20, 1), ("bob", 10, 2), ("cid", 0, 3))

    def test_found(self):
        house = self.house("cid", "ann", "bob")
        self.assertIsNone(house.found("fund", 10, False, list(self.SEATS)))
        self.assertEqual(settled_house_view(self, house), {
            "members": ["cid", "ann", "bob"], "purses": [100, 80, 90], "circles": ["fund"],
            "rooms": {"fund": {
                "names": ["ann", "bob", "cid"], "turn": 1, "rests": 0, "queue": ["ann", "bob", "cid"], "paid": [],
                "bids": [0, 0, 0], "reports": [], "held": (30, 0, 0),
                "seats": [
                    ("waits", 0, 20, 0, 0, 0, 0), ("waits", 0, 10, 0, 0, 0, 0), ("waits", 0, 0, 0, 0, 0, 0),
                ],
            }},
            "coins": (300, 270, 30, 0, 0),
            "deeds": [
                ("enter", "cid"), ("bring", "cid", 100), ("enter", "ann"), ("bring", "ann", 100), ("enter", "bob"),
                ("bring", "bob", 100), ("found", "fund", 10, False, self.SEATS),
            ],
        })

    def test_found_by_list_by_tuple_and_by_deed(self):
        houses = [self.house("ann", "bob", "cid") for _ in range(3)]
        handed = list(self.SEATS)
        houses[0].found("fund", 10, True, handed)
        self.assertEqual(handed, list(self.SEATS))
        handed.pop()
        houses[1].found("fund", 10, True, self.SEATS)
        houses[2].deed(("found", "fund", 10, True, self.SEATS))
        for house in houses:
            self.assertEqual(house_view(house), house_view(houses[2]))
            kept = house.deeds()[-1]
            self.assertEqual(kept, ("found", "fund", 10, True, self.SEATS))
            self.assertIsInstance(kept[4], tuple)
            self.assertIs(kept[3], True)

    def test_the_queue_by_names(self):
        house = self.house("ann", "bob", "cid")
        house.found("fund", 10, False, [("cid", 0, 3), ("ann", 10, 3), ("bob", 20, 3)])
        self.assertEqual(house.queue("fund"), ["bob", "ann", "cid"])
        self.assertEqual(house.names("fund"), ["cid", "ann", "bob"])

    def test_names_of_circles(self):
        house = self.house("ann", "bob", "cid")
        for name in ("", "Fund", "abcdefghijklm", "my fund", "f1", "fund\n"):
            self.keeps(house, errors.BadName, "found", name, 10, False, self.SEATS)
            self.keeps(house, errors.BadName, "found", name, 0, False, ())
        house.found("abcdefghijkl", 10, False, self.SEATS)
        self.keeps(house, errors.Known, "found", "abcdefghijkl", 10, False, self.SEATS)
        self.keeps(house, errors.Known, "found", "abcdefghijkl", 0, False, (("dan", 0, 1),))
        house.found("ann", 10, False, self.SEATS)
        self.assertEqual(house.circles(), ["abcdefghijkl", "ann"])

    def test_refusals_one_ahead_of_the_other(self):
        house = self.house("ann", "bob", "cid")
        self.keeps(house, errors.Unknown, "found", "f", 0, False, (("ann", 0, 1), ("ann", 0, 1), ("dan", 0, 1)))
        self.keeps(house, errors.Unknown, "found", "f", 0, False, (("Ann", 0, 1),))
        self.keeps(house, errors.Twice, "found", "f", 0, False, (("ann", 0, 1), ("bob", 0, 1), ("ann", 0, 1)))
        self.keeps(house, errors.Twice, "found", "f", 10, False, (("ann", 20, 2), ("ann", 20, 2)))
        self.keeps(house, errors.BadNumber, "found", "f", 0, False, (("ann", 200, 2), ("bob", 20, 2)))
        self.keeps(house, errors.BadNumber, "found", "f", 1000001, False, (("ann", 200, 2), ("bob", 20, 2)))
        self.keeps(house, errors.BadNumber, "found", "f", 10, False, (("ann", MOST + 1, 2), ("bob", 20, 2)))
        self.keeps(house, errors.BadNumber, "found", "f", 10, False, (("ann", -1, 2), ("bob", 20, 2)))
        self.keeps(house, errors.BadNumber, "found", "f", 10, False, (("ann", 200, 3), ("bob", 20, 2)))
        self.keeps(house, errors.BadNumber, "found", "f", 10, False, (("ann", 200, 0), ("bob", 20, 2)))
        self.keeps(house, errors.BadNumber, "found", "f", 10, False, (("ann", 20, 1),))
        self.keeps(house, errors.BadNumber, "found", "f", 10, False, ())
        self.keeps(house, errors.NoOrder, "found", "f", 10, False, (("ann", 200, 1), ("bob", 200, 1)))
        self.keeps(house, errors.Short, "found", "f", 10, False, (("ann", 101, 2), ("bob", 20, 2)))
        self.keeps(house, errors.Short, "found", "f", 10, False, (("ann", 20, 2), ("bob", 20, 2), ("cid", 101, 3)))
        house.found("f", 10, False, (("ann", 100, 2), ("bob", 20, 2)))
        self.assertEqual(self.purses(house), [0, 80, 100])

    def test_no_order_bears_its_bar(self):
        house = self.house("ann", "bob", "cid")
        with self.assertRaises(errors.NoOrder) as caught:
            house.found("fund", 10, False, [("ann", 20, 1), ("bob", 0, 3), ("cid", 20, 1)])
        self.assertEqual((caught.exception.early, caught.exception.late, caught.exception.crowd), (1, 1, [0, 2]))

    def test_twenty_seats_and_more(self):
        names = ["a" * many for many in range(1, 13)] + ["b" * many for many in range(1, 10)]
        house = self.house(*names, coins=19)
        seats = [(name, 19, 20) for name in names]
        self.keeps(house, errors.BadNumber, "found", "f", 1, False, tuple(seats))
        house.found("f", 1, False, seats[:20])
        self.assertEqual(house.held("f"), (380, 0, 0))

    def test_a_member_of_several_circles(self):
        house = self.house("ann", "bob", "cid")
        house.found("one", 10, False, self.SEATS)
        house.found("two", 5, True, (("bob", 5, 2), ("ann", 5, 2)))
        self.assertEqual((self.purses(house), house.coins()), ([75, 85, 100], (300, 260, 40, 0, 0)))
        house.pay("one", "ann")
        house.pay("two", "ann")
        self.assertEqual((house.paid("one"), house.paid("two")), (["ann"], ["ann"]))
        self.assertEqual(house.coins(), (300, 245, 40, 15, 0))
        house.close("two")
        self.assertEqual((house.turn("one"), house.turn("two"), house.paid("one")), (1, 2, ["ann"]))


class RoundsTest(HouseTest):
    def test_pay(self):
        house = self.fund()
        self.assertIsNone(house.pay("fund", "cid"))
        self.assertIsNone(house.deed(("pay", "fund", "ann")))
        self.assertEqual((house.paid("fund"), self.purses(house)), (["ann", "cid"], [70, 80, 70]))
        self.assertEqual((house.held("fund"), house.coins()), ((60, 20, 0), (300, 220, 60, 20, 0)))
        self.keeps(house, errors.Paid, "pay", "fund", "ann")
        house.close("fund")
        self.assertEqual((house.paid("fund"), house.held("fund")), ([], (60, 0, 20)))

    def test_pay_is_refused(self):
        house = self.fund()
        self.keeps(house, errors.Unknown, "pay", "club", "ann")
        house.enter("dan")
        self.keeps(house, errors.NoSeat, "pay", "fund", "dan")
        self.keeps(house, errors.NoSeat, "pay", "fund", "eve")
        house.take("ann", 71)
        self.keeps(house, errors.Short, "pay", "fund", "ann")
        house.bring("ann", 1)
        house.pay("fund", "ann")
        self.keeps(house, errors.Paid, "pay", "fund", "ann")
        house.pay("fund", "bob")
        house.close("fund")
        self.keeps(house, errors.Fell, "pay", "fund", "cid")
        house.take("cid", 80)
        self.keeps(house, errors.Fell, "pay", "fund", "cid")
        ended = self.ended_fund()
        self.keeps(ended, errors.Ended, "pay", "fund", "ann")
        self.keeps(ended, errors.NoSeat, "pay", "fund", "dan")

    def test_a_fallen_seat_of_an_ended_circle(self):
        house = self.fund()
        for _ in range(3):
            house.close("fund")
        self.keeps(house, errors.Ended, "pay", "fund", "ann")
        self.keeps(house, errors.Ended, "bid", "fund", "ann", -1)
        self.keeps(house, errors.Ended, "lay", "fund", "ann", 0)
        self.keeps(house, errors.Ended, "swap", "fund", "ann", "bob")

    def test_close_with_all_paid(self):
        house = self.fund()
        self.pay_all(house, ["ann", "bob", "cid"])
        told = house.close("fund")
        self.assertEqual(told, (1, "draw", 0, 30, 0, [], []))
        self.assertFalse(holds_truth(told))
        view = settled_house_view(self, house)
        told[5].append(1)
        told[6].append(1)
        self.assertEqual(house_view(house), view)
        self.assertEqual(self.purses(house), [100, 70, 70])
        self.assertEqual((house.turn("fund"), house.queue("fund"), house.paid("fund")), (2, ["bob", "cid"], []))
        self.assertEqual((house.held("fund"), house.coins()), ((60, 0, 0), (300, 240, 60, 0, 0)))
        self.assertEqual(house.reports("fund"), [(1, "draw", 0, 30, 0, [], [])])

    def test_a_round_with_a_rest(self):
        house = self.fund()
        self.pay_all(house, ["ann", "bob"])
        self.assertEqual(house.deed(("close", "fund")), (1, "box", -1, 20, 0, [2], []))
        self.assertEqual((self.purses(house), house.held("fund")), ([70, 70, 80], (60, 0, 20)))
        self.pay_all(house, ["ann", "bob"])
        self.assertEqual(house.close("fund"), (2, "draw", 0, 30, 0, [], []))
        self.pay_all(house, ["bob"])
        self.assertEqual(house.coins(), (300, 220, 60, 10, 10))
        self.assertEqual(house.close("fund"), (3, "draw", 1, 30, 0, [], [0]))
        self.assertEqual(self.purses(house), [100, 100, 100])
        self.assertEqual((house.held("fund"), house.coins()), ((0, 0, 0), (300, 300, 0, 0, 0)))
        self.assertEqual([house.seat("fund", name) for name in ("ann", "bob", "cid")], [
            ("drew", 2, 10, 30, 30, 0, 1), ("drew", 3, 20, 30, 30, 0, 0), ("fell", 1, 20, 0, 0, 0, 0),
        ])

    def test_a_fallen_seat_gets_its_stakes_and_pledge_back_at_the_end(self):
        house = self.fund()
        self.pay_all(house, ["ann", "bob", "cid"])
        house.close("fund")
        self.pay_all(house, ["bob"])
        self.assertEqual(house.close("fund"), (2, "box", -1, 20, 0, [2], [0]))
        self.assertEqual((house.rests("fund"), house.held("fund")), (0, (50, 0, 20)))
        house.lay("fund", "cid", 3)
        self.pay_all(house, ["ann", "bob"])
        self.assertEqual(self.purses(house), [90, 50, 67])
        self.assertEqual(house.close("fund"), (3, "draw", 1, 30, 0, [], []))
        self.assertEqual(self.purses(house), [100, 100, 100])
        self.assertEqual(house.seat("fund", "cid"), ("fell", 2, 23, 10, 0, 0, 0))

    def test_rests_are_told(self):
        house = self.fund()
        house.pay("fund", "cid")
        house.close("fund")
        self.assertEqual((house.rests("fund"), house.queue("fund")), (1, ["cid"]))
        house.pay("fund", "cid")
        self.assertEqual(house.close("fund"), (2, "box", -1, 10, 0, [], []))
        self.assertEqual(house.rests("fund"), 0)

    def test_bid(self):
        house = self.fund(True)
        self.pay_all(house, ["ann", "bob", "cid"])
        self.assertIsNone(house.bid("fund", "cid", 30))
        self.assertIsNone(house.deed(("bid", "fund", "bob", 7)))
        house.bid("fund", "cid", 5)
        self.assertEqual(house.bids("fund"), [0, 7, 5])
        self.assertEqual(house.coins(), (300, 210, 60, 30, 0))
        self.assertEqual(house.close("fund"), (1, "draw", 1, 24, 3, [], []))
        self.assertEqual((self.purses(house), house.bids("fund")), ([73, 94, 73], [0, 0, 0]))
        self.pay_all(house, ["ann", "cid"])
        house.bid("fund", "cid", 9)
        house.bid("fund", "cid", 0)
        self.assertEqual(house.bids("fund"), [0, 0, 0])
        self.assertEqual(house.close("fund"), (2, "draw", 0, 30, 0, [], [1]))
        self.assertEqual(self.purses(house), [93, 94, 63])
        self.pay_all(house, ["cid"])
        house.bid("fund", "cid", 30)
        self.assertEqual(house.close("fund"), (3, "draw", 2, 0, 15, [], [0, 1]))
        self.assertEqual(self.purses(house), [93 + 15 + 10, 94 + 15 + 0, 53 + 20])
        self.assertEqual(house.bids("fund"), [0, 0, 0])

    def test_shares_of_bids_go_to_purses(self):
        house = self.fund(True)
        house.bid("fund", "ann", 7)
        self.pay_all(house, ["ann", "bob", "cid"])
        house.close("fund")
        self.assertEqual(self.purses(house), [70 + 24, 73, 73])
        self.assertEqual(house.seat("fund", "bob"), ("waits", 0, 20, 10, 0, 3, 0))
        self.assertEqual(house.coins(), (300, 240, 60, 0, 0))

    def test_fallen_seats_get_no_shares_and_drawn_ones_do(self):
        house = self.fund(True)
        self.pay_all(house, ["ann", "bob"])
        self.assertEqual(house.close("fund"), (1, "box", -1, 20, 0, [2], []))
        self.pay_all(house, ["ann", "bob"])
        house.bid("fund", "bob", 7)
        self.assertEqual(house.close("fund"), (2, "draw", 1, 23, 7, [], []))
        self.assertEqual(self.purses(house), [67, 83, 80])
        house.bid("fund", "ann", 3)
        self.pay_all(house, ["ann"])
        self.assertEqual(house.close("fund"), (3, "draw", 0, 27, 3, [], [1]))
        self.assertEqual(self.purses(house), [57 + 27 + 20, 83 + 3 + 10, 80 + 20])
        self.assertEqual(house.coins(), (300, 300, 0, 0, 0))

    def test_bid_is_refused(self):
        house = self.fund(True)
        self.keeps(house, errors.Unknown, "bid", "club", "ann", 5)
        self.keeps(house, errors.NoSeat, "bid", "fund", "dan", 5)
        for coins in (-1, 31, 10 ** 30):
            self.keeps(house, errors.BadNumber, "bid", "fund", "ann", coins)
        house.bid("fund", "ann", 30)
        self.keeps(house, errors.BadNumber, "bid", "fund", "ann", 31)
        self.assertEqual(house.bids("fund"), [30, 0, 0])
        self.pay_all(house, ["ann", "bob", "cid"])
        house.close("fund")
        for coins in (5, 0, -1, 31):
            self.keeps(house, errors.NotWaiting, "bid", "fund", "ann", coins)
        self.pay_all(house, ["ann", "bob"])
        house.close("fund")
        self.keeps(house, errors.NotWaiting, "bid", "fund", "cid", 5)
        house.close("fund")
        self.keeps(house, errors.Ended, "bid", "fund", "bob", 31)
        self.keeps(house, errors.NoSeat, "bid", "fund", "dan", 5)
        self.keeps(house, errors.Unknown, "bid", "club", "dan", 5)

    def test_bid_without_bidding(self):
        house = self.fund()
        for coins in (5, 0, -1, 31):
            self.keeps(house, errors.NoBids, "bid", "fund", "ann", coins)
        house.close("fund")
        self.keeps(house, errors.NoBids, "bid", "fund", "ann", 5)
        self.keeps(house, errors.NoSeat, "bid", "fund", "dan", 5)
        self.keeps(self.ended_fund(), errors.Ended, "bid", "fund", "ann", 5)

    def test_lay(self):
        house = self.fund()
        self.assertIsNone(house.lay("fund", "bob", 80))
        self.assertIsNone(house.deed(("lay", "fund", "ann", 1)))
        self.assertEqual((self.purses(house), house.held("fund")), ([79, 0, 80], (141, 0, 0)))
        self.assertEqual((house.seat("fund", "bob")[2], house.coins()), (100, (300, 159, 141, 0, 0)))
        house.close("fund")
        house.lay("fund", "cid", 2)
        self.assertEqual(house.seat("fund", "cid"), ("fell", 1, 22, 0, 0, 0, 0))

    def test_lay_is_refused(self):
        house = self.fund()
        self.keeps(house, errors.Unknown, "lay", "club", "ann", 0)
        self.keeps(house, errors.NoSeat, "lay", "fund", "dan", 0)
        for coins in (0, -1, MOST + 1, 10 ** 30):
            self.keeps(house, errors.BadNumber, "lay", "fund", "ann", coins)
        for coins in (81, MOST):
            self.keeps(house, errors.Short, "lay", "fund", "ann", coins)
        ended = self.ended_fund()
        for coins in (1, 0, MOST):
            self.keeps(ended, errors.Ended, "lay", "fund", "ann", coins)
        self.keeps(ended, errors.NoSeat, "lay", "fund", "dan", 1)

    def test_swap(self):
        house = self.fund()
        self.assertIsNone(house.swap("fund", "ann", "cid"))
        self.assertEqual(house.queue("fund"), ["cid", "bob", "ann"])
        self.assertIsNone(house.deed(("swap", "fund", "bob", "ann")))
        self.assertEqual(house.queue("fund"), ["cid", "ann", "bob"])
        self.assertEqual(house.coins(), (300, 240, 60, 0, 0))
        self.pay_all(house, ["ann", "bob", "cid"])
        self.assertEqual(house.close("fund")[2], 2)

    def test_swap_keeps_payments_and_bids(self):
        house = self.fund(True)
        house.pay("fund", "ann")
        house.bid("fund", "bob", 4)
        house.swap("fund", "ann", "bob")
        house.lay("fund", "cid", 1)
        self.assertEqual((house.paid("fund"), house.bids("fund")), (["ann"], [0, 4, 0]))
        self.assertEqual(house.queue("fund"), ["bob", "ann", "cid"])

    def test_swap_is_refused(self):
        house = self.house("ann", "bob", "cid")
        house.found("fund", 10, False, [("ann", 20, 1), ("bob", 10, 2), ("cid", 0, 3)])
        self.keeps(house, errors.Unknown, "swap", "club", "ann", "bob")
        self.keeps(house, errors.NoSeat, "swap", "fund", "dan", "ann")
        self.keeps(house, errors.NoSeat, "swap", "fund", "ann", "dan")
        self.keeps(house, errors.NoSeat, "swap", "fund", "dan", "dan")
        self.keeps(house, errors.Uncovered, "swap", "fund", "ann", "bob")
        self.keeps(house, errors.Uncovered, "swap", "fund", "cid", "bob")
        house.lay("fund", "bob", 10)
        house.swap("fund", "ann", "bob")
        self.assertEqual(house.queue("fund"), ["bob", "ann", "cid"])
        self.pay_all(house, ["ann", "bob", "cid"])
        house.close("fund")
        self.keeps(house, errors.NotWaiting, "swap", "fund", "ann", "bob")
        self.keeps(house, errors.NotWaiting, "swap", "fund", "bob", "bob")
        self.keeps(house, errors.NoSeat, "swap", "fund", "bob", "dan")
        ended = self.ended_fund()
        self.keeps(ended, errors.Ended, "swap", "fund", "ann", "bob")
        self.keeps(ended, errors.Ended, "swap", "fund", "ann", "ann")
        self.keeps(ended, errors.NoSeat, "swap", "fund", "ann", "dan")

    def test_swap_with_itself_is_kept(self):
        house = self.fund()
        self.assertIsNone(house.swap("fund", "bob", "bob"))
        self.assertEqual(house.queue("fund"), ["ann", "bob", "cid"])
        self.assertEqual(house.deeds()[-1], ("swap", "fund", "bob", "bob"))

    def test_close_is_refused(self):
        house = self.fund()
        self.keeps(house, errors.Unknown, "close", "club")
        self.keeps(self.ended_fund(), errors.Ended, "close", "fund")


class EndedCircleTest(HouseTest):
    def test_what_is_told_of_an_ended_circle(self):
        house = self.ended_fund()
        self.assertEqual(settled_house_view(self, house)["rooms"], {"fund": {
            "names": ["ann", "bob", "cid"], "turn": 4, "rests": 0, "queue": [], "paid": [], "bids": [0, 0, 0],
            "reports": [
                (1, "draw", 0, 30, 0, [], []), (2, "draw", 1, 30, 0, [], []), (3, "draw", 2, 30, 0, [], []),
            ],
            "held": (0, 0, 0),
            "seats": [
                ("drew", 1, 20, 30, 30, 0, 0), ("drew", 2, 20, 30, 30, 0, 0), ("drew", 3, 20, 30, 30, 0, 0),
            ],
        }})
        self.assertEqual((self.purses(house), house.coins()), ([100, 100, 100], (300, 300, 0, 0, 0)))

    def test_its_name_is_not_free(self):
        house = self.ended_fund()
        self.keeps(house, errors.Known, "found", "fund", 10, False, (("ann", 10, 2), ("bob", 10, 2)))
        house.found("club", 10, False, (("ann", 10, 2), ("bob", 10, 2)))
        self.assertEqual(house.circles(), ["fund", "club"])

    def test_seats_of_members_that_parted(self):
        house = self.ended_fund()
        before = house_view(house)["rooms"]
        house.take("ann", 100)
        house.part("ann")
        self.assertEqual(house.members(), ["bob", "cid"])
        self.assertEqual(house_view(house)["rooms"], before)
        self.assertEqual(house.seat("fund", "ann"), ("drew", 1, 20, 30, 30, 0, 0))
        self.keeps(house, errors.Ended, "pay", "fund", "ann")
        self.keeps(house, errors.Ended, "lay", "fund", "ann", 5)
        self.keeps(house, errors.Unknown, "found", "club", 10, False, (("ann", 10, 2), ("bob", 10, 2)))
        house.enter("ann")
        self.assertEqual((house.members(), house.purse("ann")), (["bob", "cid", "ann"], 0))
        self.assertEqual(house_view(house)["rooms"], before)
        house.part("ann")

    def test_part_looks_at_all_circles(self):
        house = self.ended_fund()
        house.found("club", 10, False, (("bob", 10, 2), ("ann", 10, 2)))
        house.take("ann", 90)
        house.take("cid", 100)
        self.keeps(house, errors.Seated, "part", "ann")
        house.part("cid")


class QuestionsTest(HouseTest):
    def test_circles_that_are_not_there(self):
        for house in (House(), self.fund(), self.ended_fund()):
            asks = (house.names, house.turn, house.rests, house.queue, house.paid, house.bids, house.reports, house.held)
            for ask in asks:
                for name in ("club", "ann", "", "fun"):
                    refused(self, errors.Unknown, ask, name)
            for name in ("ann", "dan", ""):
                refused(self, errors.Unknown, house.seat, "club", name)

    def test_seats_that_are_not_there(self):
        for house in (self.fund(), self.ended_fund()):
            house.enter("dan")
            for name in ("dan", "eve", "", "fund"):
                refused(self, errors.NoSeat, house.seat, "fund", name)

    def test_deeds_tell_what_their_methods_tell(self):
        house = self.fund(True)
        for row in (("enter", "dan"), ("bring", "dan", 5), ("take", "dan", 5), ("part", "dan"), ("pay", "fund", "ann"),
                    ("bid", "fund", "bob", 3), ("lay", "fund", "cid", 4), ("swap", "fund", "ann", "cid")):
            self.assertIsNone(house.twin().deed(row))
            self.assertIsNone(getattr(house, row[0])(*row[1:]))
            self.assertEqual(house.deeds()[-1], row)
        self.assertEqual(house.twin().deed(("close", "fund")), (1, "box", -1, 10, 0, [1, 2], []))
        self.assertEqual(house.close("fund"), (1, "box", -1, 10, 0, [1, 2], []))
        self.assertEqual(house.deeds()[-1], ("close", "fund"))

    def test_opened(self):
        house = self.fund(True)
        house.bid("fund", "bob", 3)
        house.close("fund")
        deeds = house.deeds()
        other = opened(deeds)
        self.assertIsInstance(other, House)
        self.assertEqual(house_view(other), house_view(house))
        deeds.clear()
        self.assertEqual(house_view(other), house_view(house))
        self.assertEqual(house_view(opened([])), house_view(House()))

    def test_opened_with_a_refusal(self):
        refused(self, errors.Known, opened, [("enter", "ann"), ("enter", "ann")])
        refused(self, errors.Unknown, opened, [("bring", "ann", 5), ("enter", "Ann")])
        refused(self, errors.Short, opened, [("enter", "ann"), ("take", "ann", 5), ("enter", "ann")])
        refused(self, errors.NoOrder, opened, self.fund().deeds()[:-1] + [
            ("found", "fund", 10, False, (("ann", 0, 1), ("bob", 0, 1))),
        ])


if __name__ == "__main__":
    unittest.main()
