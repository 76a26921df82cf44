"""susu.circle: closing rounds, bids, pledges and exchanges, by hand (points 11 to 16)."""

import unittest

from susu.circle import Circle
from susu.errors import BadNumber, Ended, NoSeat, NotEnded, NotWaiting, Uncovered
from tests.checks import holds_truth, numbers, refused
from tests.views import circle_view, settled_circle_view

MOST = 1000000000


def stairs(many, stake=10, bidding=False):
    """A circle in which each seat is covered from its own place on."""
    pledges = [stake * (many - 1 - at) for at in range(many)]
    return Circle(stake, pledges, [many] * many, bidding)


def covered(many, stake=10, bidding=True):
    """A circle in which each seat is covered in all rounds."""
    return Circle(stake, [stake * (many - 1)] * many, [many] * many, bidding)


class Rounds(unittest.TestCase):
    """Closing rounds with all that is told checked."""

    def closes(self, circle, paid, report, bids=None):
        """Close a round by 1 (paid) and 0 (not), and look at the report and what was handed in."""
        hand = [sign == "1" for sign in paid]
        offers = [0] * len(hand) if bids is None else bids
        kept = (list(hand), list(offers))
        told = circle.close(hand, offers)
        self.assertEqual(told, report)
        self.assertIsInstance(told, tuple)
        self.assertFalse(holds_truth(told), told)
        self.assertEqual((hand, offers), kept)
        view = settled_circle_view(self, circle, len(hand))
        hand.clear()
        offers.append(1)
        told[5].append(7)
        told[6].append(7)
        self.assertEqual(circle_view(circle, len(kept[0])), view)

    def keeps(self, circle, many, error, ask, *handed):
        """A refusal after which all is as ahead of it."""
        view = circle_view(circle, many)
        refused(self, error, ask, *handed)
        self.assertEqual(circle_view(circle, many), view)


class PlainRoundsTest(Rounds):
    def test_all_paid(self):
        circle = stairs(3)
        self.closes(circle, "111", (1, "draw", 0, 30, 0, [], []))
        self.assertEqual((circle.turn(), circle.queue(), circle.box(), circle.rests()), (2, [1, 2], 0, 0))
        self.assertEqual([circle.expected(at) for at in range(3)], [1, 2, 3])
        self.assertEqual([circle.owed(at) for at in range(3)], [20, 20, 20])
        self.closes(circle, "111", (2, "draw", 1, 30, 0, [], []))
        self.assertFalse(circle.ended())
        self.closes(circle, "111", (3, "draw", 2, 30, 0, [], []))
        self.assertEqual(circle_view(circle, 3), {
            "turn": 4, "ended": True, "queue": [], "rests": 0, "box": 0,
            "seats": [
                (("drew", 1, 20, 30, 30, 0, 0), 0, 1, [20, -10, -10]),
                (("drew", 2, 10, 30, 30, 0, 0), 0, 2, [-10, 20, -10]),
                (("drew", 3, 0, 30, 30, 0, 0), 0, 3, [-10, -10, 20]),
            ],
            "refunds": ("told", [20, 10, 0]),
        })

    def test_stakes_out_of_pledges(self):
        circle = stairs(3)
        self.closes(circle, "111", (1, "draw", 0, 30, 0, [], []))
        self.closes(circle, "011", (2, "draw", 1, 30, 0, [], [0]))
        self.assertEqual(circle.seat(0), ("drew", 1, 10, 20, 30, 0, 1))
        self.closes(circle, "001", (3, "draw", 2, 30, 0, [], [0, 1]))
        self.assertEqual(circle.seat(0), ("drew", 1, 0, 30, 30, 0, 2))
        self.assertEqual(circle.seat(1), ("drew", 2, 0, 30, 30, 0, 1))
        self.assertEqual(circle.flow(0), [20, -10, -10])
        self.assertEqual(circle.refunds(), [0, 0, 0])

    def test_a_pledge_pays_in_some_rounds_alone(self):
        circle = stairs(4)
        self.closes(circle, "1111", (1, "draw", 0, 40, 0, [], []))
        self.closes(circle, "1111", (2, "draw", 1, 40, 0, [], []))
        self.closes(circle, "0111", (3, "draw", 2, 40, 0, [], [0]))
        self.closes(circle, "1011", (4, "draw", 3, 40, 0, [], [1]))
        self.assertEqual(circle.refunds(), [20, 10, 10, 0])

    def test_a_seat_behind_falls(self):
        circle = stairs(3)
        self.closes(circle, "110", (1, "box", -1, 20, 0, [2], []))
        self.assertEqual(circle_view(circle, 3), {
            "turn": 2, "ended": False, "queue": [0, 1], "rests": 0, "box": 20,
            "seats": [
                (("waits", 0, 20, 10, 0, 0, 0), 20, 2, [-10]),
                (("waits", 0, 10, 10, 0, 0, 0), 20, 3, [-10]),
                (("fell", 1, 0, 0, 0, 0, 0), 0, 0, [0]),
            ],
            "refunds": ("refused", NotEnded),
        })
        self.closes(circle, "110", (2, "draw", 0, 30, 0, [], []))
        self.assertEqual(circle.box(), 10)
        self.closes(circle, "110", (3, "draw", 1, 30, 0, [], []))
        self.assertEqual((circle.box(), circle.refunds()), (0, [20, 10, 0]))

    def test_a_seat_ahead_falls(self):
        circle = stairs(3)
        self.closes(circle, "011", (1, "box", -1, 20, 0, [0], []))
        self.assertEqual([circle.expected(at) for at in range(3)], [0, 2, 3])
        self.closes(circle, "011", (2, "draw", 1, 30, 0, [], []))
        self.closes(circle, "011", (3, "draw", 2, 30, 0, [], []))
        self.assertEqual(circle.refunds(), [20, 10, 0])

    def test_rests_stay_due(self):
        circle = Circle(5, [15, 10, 5, 0], [1, 2, 3, 4])
        self.closes(circle, "1111", (1, "draw", 0, 20, 0, [], []))
        self.closes(circle, "0100", (2, "box", -1, 10, 0, [2, 3], [0]))
        self.assertEqual((circle.rests(), circle.box(), circle.queue(), circle.expected(1)), (1, 10, [1], 4))
        self.closes(circle, "1100", (3, "box", -1, 10, 0, [], []))
        self.assertEqual((circle.rests(), circle.box(), circle.expected(1)), (0, 20, 4))
        self.closes(circle, "0100", (4, "draw", 1, 20, 0, [], [0]))
        self.assertEqual(circle_view(circle, 4), {
            "turn": 5, "ended": True, "queue": [], "rests": 0, "box": 10,
            "seats": [
                (("drew", 1, 5, 20, 20, 0, 2), 0, 1, [15, -5, -5, -5]),
                (("drew", 4, 10, 20, 20, 0, 0), 0, 4, [-5, -5, -5, 15]),
                (("fell", 2, 5, 5, 0, 0, 0), 0, 0, [-5, 0, 0, 0]),
                (("fell", 2, 0, 5, 0, 0, 0), 0, 0, [-5, 0, 0, 0]),
            ],
            "refunds": ("told", [5, 10, 10, 5]),
        })

    def test_a_seat_falls_while_a_rest_is_due(self):
        circle = stairs(4)
        self.closes(circle, "1100", (1, "box", -1, 20, 0, [2, 3], []))
        self.assertEqual(circle.rests(), 1)
        self.closes(circle, "1000", (2, "box", -1, 10, 0, [1], []))
        self.assertEqual((circle.rests(), circle.box(), circle.expected(0)), (1, 30, 4))
        self.closes(circle, "1000", (3, "box", -1, 10, 0, [], []))
        self.assertEqual((circle.rests(), circle.box()), (0, 40))
        self.closes(circle, "1000", (4, "draw", 0, 40, 0, [], []))
        self.assertEqual((circle.box(), circle.refunds()), (10, [30, 30, 10, 0]))

    def test_nobody_pays_at_all(self):
        circle = stairs(3)
        self.closes(circle, "000", (1, "box", -1, 0, 0, [0, 1, 2], []))
        self.assertEqual((circle.rests(), circle.queue()), (2, []))
        self.closes(circle, "000", (2, "box", -1, 0, 0, [], []))
        self.closes(circle, "111", (3, "box", -1, 0, 0, [], []))
        self.assertEqual((circle.rests(), circle.box(), circle.refunds()), (0, 0, [20, 10, 0]))

    def test_a_fallen_seat_pays_nothing_whatever_is_told(self):
        circle = stairs(3)
        self.closes(circle, "110", (1, "box", -1, 20, 0, [2], []))
        self.closes(circle, "111", (2, "draw", 0, 30, 0, [], []))
        self.assertEqual((circle.box(), circle.seat(2), circle.flow(2)), (10, ("fell", 1, 0, 0, 0, 0, 0), [0, 0]))

    def test_a_seat_falls_in_the_last_round(self):
        circle = Circle(10, [13, 4], [1, 2])
        self.closes(circle, "11", (1, "draw", 0, 20, 0, [], []))
        self.closes(circle, "10", (2, "box", -1, 10, 0, [1], []))
        self.assertEqual((circle.ended(), circle.box(), circle.refunds()), (True, 10, [13, 14]))
        self.assertEqual(circle.seat(1), ("fell", 2, 4, 10, 0, 0, 0))

    def test_a_waiting_seat_never_pays_out_of_its_pledge(self):
        circle = covered(3, 10, False)
        self.closes(circle, "101", (1, "box", -1, 20, 0, [1], []))
        self.assertEqual(circle.seat(1), ("fell", 1, 20, 0, 0, 0, 0))
        self.closes(circle, "000", (2, "box", -1, 0, 0, [0, 2], []))
        self.closes(circle, "000", (3, "box", -1, 0, 0, [], []))
        self.assertEqual((circle.box(), circle.refunds()), (20, [30, 20, 30]))

    def test_lists_of_reports_grow_by_seats(self):
        circle = Circle(10, [50, 50, 50, 50, 50, 50], [6, 5, 4, 3, 2, 1])
        self.assertEqual(circle.queue(), [5, 4, 3, 2, 1, 0])
        self.closes(circle, "111111", (1, "draw", 5, 60, 0, [], []))
        self.closes(circle, "111111", (2, "draw", 4, 60, 0, [], []))
        self.closes(circle, "111100", (3, "draw", 3, 60, 0, [], [4, 5]))
        self.closes(circle, "001000", (4, "box", -1, 40, 0, [0, 1], [3, 4, 5]))


class BidsTest(Rounds):
    def test_the_greatest_bid_draws(self):
        circle = covered(4)
        self.closes(circle, "1111", (1, "draw", 1, 34, 2, [], []), [3, 7, 7, 0])
        self.assertEqual((circle.queue(), circle.box()), ([0, 2, 3], 0))
        self.assertEqual([circle.expected(at) for at in range(4)], [2, 1, 3, 4])
        self.assertEqual([circle.flow(at) for at in range(4)], [[-8], [24], [-8], [-8]])
        self.assertEqual(circle.seat(1), ("drew", 1, 30, 10, 34, 0, 0))
        self.assertEqual(circle.seat(3), ("waits", 0, 30, 10, 0, 2, 0))
        self.closes(circle, "1111", (2, "draw", 3, 1, 13, [], []), [0, 0, 0, 40])
        self.assertEqual(circle.flow(1), [24, 3])
        self.closes(circle, "1111", (3, "draw", 2, 40, 0, [], []), [1, 0, 2, 0])
        self.closes(circle, "1111", (4, "draw", 0, 1, 13, [], []), [40, 0, 0, 0])
        self.assertEqual(circle.seat(0), ("drew", 4, 30, 40, 1, 15, 0))
        self.assertEqual((circle.box(), circle.refunds()), (0, [30, 30, 30, 30]))

    def test_without_bids_the_head_gives_up_nothing(self):
        self.closes(covered(3), "111", (1, "draw", 0, 30, 0, [], []))
        self.closes(covered(3), "111", (1, "draw", 0, 28, 1, [], []), [3, 0, 0])
        self.closes(covered(3), "111", (1, "draw", 2, 30, 0, [], []), [0, 0, 1])

    def test_equal_bids_by_places_in_the_queue(self):
        circle = Circle(10, [0, 30, 20, 30], [4, 4, 4, 1], True)
        self.assertEqual(circle.queue(), [3, 1, 2, 0])
        self.closes(circle, "1111", (1, "draw", 3, 34, 2, [], []), [6, 6, 6, 6])
        self.closes(circle, "1111", (2, "draw", 1, 34, 2, [], []), [6, 6, 6, 6])
        back = Circle(10, [30] * 4, [4, 3, 2, 1], True)
        self.closes(back, "1111", (1, "draw", 2, 34, 2, [], []), [6, 6, 6, 5])

    def test_bids_that_are_not_covered(self):
        circle = stairs(4, 10, True)
        self.closes(circle, "1111", (1, "draw", 0, 40, 0, [], []), [0, 40, 40, 40])
        self.closes(circle, "1111", (2, "draw", 1, 37, 1, [], []), [40, 3, 40, 40])
        self.closes(circle, "1111", (3, "draw", 2, 40, 0, [], []), [40, 40, 0, 40])
        self.closes(circle, "1111", (4, "draw", 3, 37, 1, [], []), [40, 40, 40, 3])

    def test_a_bid_just_covered_and_one_coin_short(self):
        for pledge, report in ((20, (1, "draw", 1, 28, 1, [], [])), (19, (1, "draw", 0, 30, 0, [], []))):
            circle = Circle(10, [20, pledge, 10], [1, 3, 3], True)
            self.closes(circle, "111", report, [0, 3, 0])

    def test_laid_coins_cover_a_bid(self):
        circle = Circle(10, [20, 19, 0], [1, 3, 3], True)
        circle.lay(1, 1)
        self.closes(circle, "111", (1, "draw", 1, 28, 1, [], []), [2, 3, 3])

    def test_the_pot_given_up(self):
        circle = covered(2)
        self.closes(circle, "11", (1, "draw", 1, 0, 20, [], []), [0, 20])
        self.assertEqual((circle.flow(0), circle.flow(1)), ([10], [-10]))
        self.closes(circle, "10", (2, "draw", 0, 20, 0, [], [1]), [0, 20])
        self.assertEqual(circle.refunds(), [10, 0])

    def test_no_other_seat_is_left(self):
        circle = covered(2)
        self.closes(circle, "10", (1, "box", -1, 10, 0, [1], []), [20, 20])
        self.closes(circle, "10", (2, "draw", 0, 20, 0, [], []), [20, 20])
        self.assertEqual((circle.box(), circle.flow(0), circle.refunds()), (0, [-10, 10], [10, 10]))

    def test_fallen_seats_get_no_shares_and_drawn_ones_do(self):
        circle = covered(4)
        self.closes(circle, "1111", (1, "draw", 2, 40, 0, [], []), [0, 0, 1, 0])
        self.closes(circle, "1101", (2, "draw", 0, 40, 0, [], [2]), [0, 0, 40, 0])
        self.closes(circle, "0100", (3, "box", -1, 30, 0, [3], [0, 2]), [0, 9, 0, 40])
        self.assertEqual((circle.box(), circle.rests()), (30, 0))
        self.closes(circle, "0101", (4, "draw", 1, 32, 4, [], [0, 2]), [0, 9, 0, 40])
        self.assertEqual([circle.seat(at)[5] for at in range(4)], [4, 0, 4, 0])
        self.assertEqual([circle.flow(at) for at in range(4)], [
            [-10, 30, -10, -6], [-10, -10, -10, 22], [30, -10, -10, -6], [-10, -10, 0, 0],
        ])
        self.assertEqual((circle.box(), circle.refunds()), (20, [10, 30, 0, 50]))

    def test_no_bid_is_looked_at_while_a_rest_is_due(self):
        circle = covered(3)
        self.closes(circle, "100", (1, "box", -1, 10, 0, [1, 2], []), [30, 30, 30])
        self.closes(circle, "100", (2, "box", -1, 10, 0, [], []), [30, 30, 30])
        self.assertEqual((circle.queue(), circle.seat(0)[5]), ([0], 0))

    def test_no_bid_is_looked_at_without_bidding(self):
        circle = covered(3, 10, False)
        self.closes(circle, "111", (1, "draw", 0, 30, 0, [], []), [0, 30, 6])
        self.closes(circle, "111", (2, "draw", 1, 30, 0, [], []), [0, 6, 30])

    def test_winners_from_behind_delay_those_ahead(self):
        circle = covered(4)
        self.closes(circle, "1111", (1, "draw", 2, 37, 1, [], []), [0, 0, 3, 0])
        self.assertEqual([circle.expected(at) for at in range(4)], [2, 3, 1, 4])


class RefusedCloseTest(Rounds):
    def test_lists_of_other_lengths(self):
        for bidding in (False, True):
            circle = covered(3, 10, bidding)
            for paid in ([], [True] * 2, [True] * 4):
                self.keeps(circle, 3, BadNumber, circle.close, paid, [0, 0, 0])
            for bids in ([], [0, 0], [0] * 4):
                self.keeps(circle, 3, BadNumber, circle.close, [True] * 3, bids)

    def test_bids_beyond_their_bounds(self):
        for bidding in (False, True):
            circle = covered(3, 10, bidding)
            for at in range(3):
                for bid in (-1, 31, 10 ** 30, -10 ** 30):
                    bids = [bid if k == at else 0 for k in range(3)]
                    self.keeps(circle, 3, BadNumber, circle.close, [True] * 3, bids)
                    self.keeps(circle, 3, BadNumber, circle.close, [False] * 3, bids)

    def test_bids_of_seats_that_do_not_wait_keep_the_bounds(self):
        circle = covered(3)
        circle.close([True, True, False], [0, 0, 0])
        circle.close([True, True, False], [0, 0, 0])
        for at in range(3):
            self.keeps(circle, 3, BadNumber, circle.close, [True] * 3, [31 if k == at else 0 for k in range(3)])
            self.keeps(circle, 3, BadNumber, circle.close, [True] * 3, [-1 if k == at else 0 for k in range(3)])
        self.closes(circle, "110", (3, "draw", 1, 30, 0, [], []), [30, 0, 30])

    def test_behind_the_end(self):
        circle = covered(2)
        circle.close([True, True], [0, 0])
        circle.close([True, True], [0, 0])
        for paid, bids in (([True, True], [0, 0]), ([], []), ([True], [0, 0]), ([True, True], [-1, 21])):
            self.keeps(circle, 2, Ended, circle.close, paid, bids)


class LayAndSwapTest(Rounds):
    def ended_circle(self):
        circle = covered(2)
        circle.close([True, True], [0, 0])
        circle.close([True, True], [0, 0])
        return circle

    def test_lay(self):
        circle = stairs(3)
        self.assertIsNone(circle.lay(2, 1))
        self.assertIsNone(circle.lay(2, MOST))
        self.assertEqual(circle.seat(2), ("waits", 0, MOST + 1, 0, 0, 0, 0))
        self.assertEqual((circle.queue(), circle.box(), circle.flow(2)), ([0, 1, 2], 0, []))
        circle.close([True, True, True], [0, 0, 0])
        circle.lay(0, 5)
        self.closes(circle, "010", (2, "box", -1, 20, 0, [2], [0]))
        circle.lay(2, 6)
        circle.lay(0, 7)
        self.closes(circle, "010", (3, "draw", 1, 30, 0, [], [0]))
        self.assertEqual(circle.refunds(), [12, 10, MOST + 7 + 10])

    def test_lay_is_refused(self):
        circle = stairs(3)
        for coins in (0, -1, MOST + 1, 10 ** 30):
            self.keeps(circle, 3, BadNumber, circle.lay, 1, coins)
        for at in (-1, 3, 10 ** 30):
            self.keeps(circle, 3, NoSeat, circle.lay, at, 5)
            self.keeps(circle, 3, NoSeat, circle.lay, at, 0)
        circle = self.ended_circle()
        self.keeps(circle, 2, Ended, circle.lay, 0, 5)
        self.keeps(circle, 2, Ended, circle.lay, 0, 0)
        self.keeps(circle, 2, NoSeat, circle.lay, 2, 5)
        self.keeps(circle, 2, NoSeat, circle.lay, -1, 0)

    def test_swap(self):
        circle = Circle(10, [30, 30, 30, 30], [1, 2, 3, 4])
        self.assertIsNone(circle.swap(0, 3))
        self.assertEqual(circle.queue(), [3, 1, 2, 0])
        self.assertEqual([circle.expected(at) for at in range(4)], [4, 2, 3, 1])
        circle.swap(1, 2)
        self.assertEqual(circle.queue(), [3, 2, 1, 0])
        self.closes(circle, "1111", (1, "draw", 3, 40, 0, [], []))
        circle.swap(0, 2)
        self.closes(circle, "1111", (2, "draw", 0, 40, 0, [], []))
        self.assertEqual(circle.queue(), [1, 2])

    def test_swap_back_is_as_ahead(self):
        circle = covered(4)
        view = circle_view(circle, 4)
        circle.swap(1, 3)
        circle.swap(3, 1)
        self.assertEqual(circle_view(circle, 4), view)

    def test_swap_looks_at_the_pledge_as_it_is_now(self):
        circle = stairs(3)
        self.keeps(circle, 3, Uncovered, circle.swap, 0, 1)
        self.keeps(circle, 3, Uncovered, circle.swap, 1, 0)
        circle.lay(1, 9)
        self.keeps(circle, 3, Uncovered, circle.swap, 0, 1)
        circle.lay(1, 1)
        circle.swap(0, 1)
        self.assertEqual(circle.queue(), [1, 0, 2])
        self.keeps(circle, 3, Uncovered, circle.swap, 2, 0)
        self.keeps(circle, 3, Uncovered, circle.swap, 1, 2)

    def test_swap_looks_at_rounds_with_their_rests(self):
        circle = Circle(10, [40, 30, 19, 20, 0], [1, 2, 4, 3, 5])
        self.keeps(circle, 5, Uncovered, circle.swap, 0, 1)
        circle.close([True, True, True, False, False], [0] * 5)
        self.assertEqual((circle.rests(), [circle.expected(at) for at in range(3)]), (1, [3, 4, 5]))
        self.keeps(circle, 5, Uncovered, circle.swap, 0, 2)
        self.keeps(circle, 5, Uncovered, circle.swap, 2, 0)
        circle.swap(1, 2)
        self.assertEqual((circle.queue(), [circle.expected(at) for at in range(3)]), ([0, 2, 1], [3, 5, 4]))
        circle.swap(1, 0)
        self.assertEqual(circle.queue(), [1, 2, 0])

    def test_swap_with_itself(self):
        circle = stairs(3)
        view = circle_view(circle, 3)
        for at in range(3):
            self.assertIsNone(circle.swap(at, at))
        self.assertEqual(circle_view(circle, 3), view)
        circle.close([True, True, False], [0, 0, 0])
        self.assertIsNone(circle.swap(1, 1))
        self.keeps(circle, 3, NotWaiting, circle.swap, 2, 2)
        circle.close([True, True, False], [0, 0, 0])
        self.keeps(circle, 3, NotWaiting, circle.swap, 0, 0)

    def test_swap_of_seats_that_do_not_wait(self):
        circle = covered(4)
        circle.close([True] * 4, [0] * 4)
        circle.close([True, True, True, False], [0] * 4)
        self.assertEqual(circle.queue(), [1, 2])
        for at, other in ((0, 1), (1, 0), (3, 1), (2, 3), (0, 3), (3, 3), (0, 0)):
            self.keeps(circle, 4, NotWaiting, circle.swap, at, other)
        circle.swap(2, 1)
        self.assertEqual(circle.queue(), [2, 1])

    def test_not_waiting_goes_ahead_of_uncovered(self):
        circle = stairs(3)
        circle.close([True] * 3, [0] * 3)
        self.keeps(circle, 3, NotWaiting, circle.swap, 2, 0)
        self.keeps(circle, 3, Uncovered, circle.swap, 2, 1)

    def test_swap_of_seats_that_are_not_there(self):
        circle = stairs(3)
        for at, other in ((0, 3), (3, 0), (-1, 0), (0, -1), (3, 3), (-1, -1), (10 ** 30, 1)):
            self.keeps(circle, 3, NoSeat, circle.swap, at, other)
        ended = self.ended_circle()
        self.keeps(ended, 2, NoSeat, ended.swap, 0, 2)
        self.keeps(ended, 2, NoSeat, ended.swap, -1, 0)
        self.keeps(ended, 2, Ended, ended.swap, 0, 1)
        self.keeps(ended, 2, Ended, ended.swap, 0, 0)

    def test_wishes_are_not_looked_at(self):
        circle = Circle(10, [20, 20, 20], [1, 2, 3])
        circle.swap(0, 2)
        self.assertEqual(circle.queue(), [2, 1, 0])


class EndTest(Rounds):
    def test_refunds_ahead_of_the_end(self):
        circle = covered(2)
        self.keeps(circle, 2, NotEnded, circle.refunds)
        circle.close([True, False], [0, 0])
        self.keeps(circle, 2, NotEnded, circle.refunds)
        circle.close([True, False], [0, 0])
        self.assertEqual(numbers(self, circle.refunds), [10, 10])
        self.assertEqual(circle.turn(), 3)

    def test_refunds_with_laid_coins_and_stakes_of_fallen_ones(self):
        circle = covered(3)
        circle.close([True, True, True], [0, 0, 0])
        circle.close([True, True, True], [0, 0, 0])
        circle.lay(0, 4)
        circle.lay(2, 3)
        self.closes(circle, "010", (3, "box", -1, 20, 0, [2], [0]))
        self.assertEqual((circle.refunds(), circle.box()), ([14, 20, 43], 20))
        self.assertEqual([circle.owed(at) for at in range(3)], [0, 0, 0])
        self.assertEqual([circle.expected(at) for at in range(3)], [1, 2, 0])


class TwinTest(Rounds):
    def busy(self):
        circle = covered(4)
        circle.lay(2, 8)
        circle.swap(0, 3)
        circle.close([True, True, True, True], [0, 0, 5, 0])
        circle.close([True, True, False, False], [0, 0, 0, 0])
        return circle

    def test_a_twin_is_alike_and_apart(self):
        circle = self.busy()
        twin = circle.twin()
        view = circle_view(circle, 4)
        self.assertIsInstance(twin, Circle)
        self.assertEqual(settled_circle_view(self, twin, 4), view)
        twin.lay(0, 3)
        twin.swap(0, 1)
        twin.close([True, False, True, True], [9, 9, 0, 0])
        self.assertEqual(circle_view(circle, 4), view)
        changed = circle_view(twin, 4)
        self.assertNotEqual(changed, view)
        circle.lay(1, 2)
        circle.close([False] * 4, [0] * 4)
        circle.close([False] * 4, [0] * 4)
        self.assertEqual(circle_view(twin, 4), changed)

    def test_a_twin_goes_on_alike(self):
        circle = self.busy()
        twin = circle.twin().twin()
        for paid, bids in (([True, True, False, False], [7, 8, 0, 0]), ([True, False, True, False], [0, 2, 0, 0])):
            self.assertEqual(circle.close(paid, bids), twin.close(paid, bids))
            self.assertEqual(circle_view(circle, 4), circle_view(twin, 4))
        self.assertEqual(circle.refunds(), twin.refunds())

    def test_a_twin_bids_or_not_as_the_first_one(self):
        for bidding, drawer in ((False, 0), (True, 1)):
            twin = covered(3, 10, bidding).twin()
            self.assertEqual(twin.close([True] * 3, [0, 4, 0])[2], drawer)

    def test_twins_of_the_opening_and_of_the_end(self):
        circle = covered(2)
        first = circle.twin()
        circle.close([True, True], [0, 0])
        circle.close([False, True], [0, 0])
        last = circle.twin()
        self.assertEqual(first.turn(), 1)
        self.assertEqual(circle_view(last, 2), circle_view(circle, 2))
        self.keeps(last, 2, Ended, last.close, [True, True], [0, 0])


if __name__ == "__main__":
    unittest.main()
