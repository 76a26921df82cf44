"""susu.circle: openings and what they refuse (points 3, 4, 10, 14, 15)."""

import random
import unittest

from susu.circle import Circle
from susu.errors import BadNumber, NoOrder, NoSeat, NotEnded, SusuError
from susu.plan import first_covered, good_paper, order_or_bar
from tests.checks import answer, refused
from tests.plain import PlainCircle, first_queue
from tests.views import circle_view, settled_circle_view

MOST = 1000000000


def windows_of(stake, pledges, wishes):
    return [(first_covered(stake, len(pledges), pledge), wish) for pledge, wish in zip(pledges, wishes)]


def some_opening(chance, most_seats=6):
    """A stake, pledges and wishes, with an order about as often as without."""
    many = chance.randint(2, most_seats)
    stake = chance.choice([1, 3, 10, 1000000])
    pledges, wishes = [], []
    for turn in chance.sample(range(1, many + 1), many):
        first = max(1, turn - chance.choice([-1, 0, 0, 0, 0, 1, 2]))
        pledges.append(max(0, stake * (many - first)) + chance.choice([0, 0, 0, -1 if first < many else 0, stake]))
        wishes.append(min(many, turn + chance.choice([0, 0, 1, 2, many])))
    return stake, pledges, wishes


class OpeningTest(unittest.TestCase):
    def test_an_opened_circle(self):
        circle = Circle(10, [20, 10, 0], [1, 2, 3])
        self.assertEqual(settled_circle_view(self, circle, 3), {
            "turn": 1, "ended": False, "queue": [0, 1, 2], "rests": 0, "box": 0,
            "seats": [
                (("waits", 0, 20, 0, 0, 0, 0), 30, 1, []),
                (("waits", 0, 10, 0, 0, 0, 0), 30, 2, []),
                (("waits", 0, 0, 0, 0, 0, 0), 30, 3, []),
            ],
            "refunds": ("refused", NotEnded),
        })

    def test_the_first_queue_is_the_told_order(self):
        self.assertEqual(Circle(10, [0, 20, 10], [3, 3, 3]).queue(), [1, 2, 0])
        self.assertEqual(Circle(10, [20, 20, 20], [3, 3, 3]).queue(), [0, 1, 2])
        self.assertEqual(Circle(10, [20, 20, 20], [3, 2, 1]).queue(), [2, 1, 0])
        self.assertEqual(Circle(10, [20, 20, 20], [3, 1, 3]).queue(), [1, 0, 2])
        self.assertEqual(Circle(7, [7, 0], [1, 2]).queue(), [0, 1])
        self.assertEqual(Circle(10, [10, 30, 20, 0], [4, 4, 3, 4]).queue(), [1, 2, 0, 3])
        self.assertEqual(Circle(10, [30, 0, 30, 30], [2, 4, 1, 3]).queue(), [2, 0, 3, 1])

    def test_windows_begin_with_the_first_covered_round(self):
        self.assertEqual(Circle(10, [20, 10, 0], [3, 3, 3]).queue(), [0, 1, 2])
        with self.assertRaises(NoOrder):
            Circle(10, [19, 10, 0], [3, 3, 3])
        with self.assertRaises(NoOrder):
            Circle(10, [20, 9, 0], [3, 3, 3])
        self.assertEqual(Circle(10, [20, 20, 0], [2, 1, 3]).queue(), [1, 0, 2])
        with self.assertRaises(NoOrder):
            Circle(10, [20, 19, 0], [2, 1, 3])

    def test_expected_and_owed_by_places(self):
        circle = Circle(10, [0, 30, 20, 30], [4, 4, 4, 1], True)
        self.assertEqual(circle.queue(), [3, 1, 2, 0])
        self.assertEqual([circle.expected(at) for at in range(4)], [4, 2, 3, 1])
        self.assertEqual([circle.owed(at) for at in range(4)], [40, 40, 40, 40])

    def test_openings_by_chance(self):
        chance = random.Random(51)
        opened = 0
        for _ in range(1500):
            stake, pledges, wishes = some_opening(chance)
            bidding = chance.random() < 0.5
            windows = windows_of(stake, pledges, wishes)
            paper = order_or_bar(windows)
            if paper[0] == "order":
                opened += 1
                circle = Circle(stake, pledges, wishes, bidding)
                self.assertEqual(circle.queue(), paper[1])
                self.assertEqual(circle.queue(), first_queue(stake, pledges, wishes))
                plain = PlainCircle(stake, pledges, wishes, bidding)
                self.assertEqual(circle_view(circle, len(pledges)), circle_view(plain, len(pledges)))
            else:
                self.refused_without_order(stake, pledges, wishes)
        self.assertTrue(300 < opened < 1200, opened)

    def refused_without_order(self, stake, pledges, wishes):
        with self.assertRaises(NoOrder) as caught:
            Circle(stake, pledges, wishes)
        error = caught.exception
        windows = windows_of(stake, pledges, wishes)
        self.assertTrue(good_paper(windows, ("bar", error.early, error.late, error.crowd)))

    def test_no_order_bears_a_bar(self):
        for wishes in ([3, 3, 3], [1, 2, 3], [1, 1, 1]):
            for pledges in ([0, 0, 0], [20, 9, 9], [0, 0, 20]):
                if first_queue(10, pledges, wishes) is None:
                    self.refused_without_order(10, pledges, wishes)
        with self.assertRaises(NoOrder) as caught:
            Circle(10, [20, 20, 0], [1, 1, 3])
        self.assertEqual((caught.exception.early, caught.exception.late, caught.exception.crowd), (1, 1, [0, 1]))
        with self.assertRaises(NoOrder) as caught:
            Circle(10, [20, 20, 0], [1, 2, 2])
        self.refused_without_order(10, [20, 20, 0], [1, 2, 2])
        self.assertIn(2, caught.exception.crowd)

    def test_most_seats(self):
        many = 20
        pledges = [10 * (many - 1 - at) for at in range(many)]
        circle = Circle(10, pledges, list(range(1, many + 1)))
        self.assertEqual(circle.queue(), list(range(many)))
        self.assertEqual(circle.owed(19), 200)
        back = Circle(10, pledges[::-1], [many] * many)
        self.assertEqual(back.queue(), list(range(many))[::-1])

    def test_bidding_is_told_or_left_out(self):
        for circle in (Circle(10, [10, 10], [2, 2]), Circle(10, [10, 10], [2, 2], False)):
            self.assertEqual(circle.close([True, True], [0, 5])[2:5], (0, 20, 0))
        for circle in (Circle(10, [10, 10], [2, 2], True), Circle(10, [10, 10], [2, 2], bidding=True)):
            self.assertEqual(circle.close([True, True], [0, 5])[2:5], (1, 15, 5))
        named = Circle(stake=10, pledges=[10, 0], wishes=[1, 2], bidding=False)
        self.assertEqual(named.queue(), [0, 1])

    def test_lists_that_are_handed_in_stay_the_callers(self):
        pledges, wishes = [20, 10, 0], [1, 2, 3]
        circle = Circle(10, pledges, wishes)
        twin = circle.twin()
        self.assertEqual((pledges, wishes), ([20, 10, 0], [1, 2, 3]))
        view = circle_view(circle, 3)
        pledges[0], wishes[0] = 0, 3
        pledges.clear()
        wishes.append(1)
        self.assertEqual(circle_view(circle, 3), view)
        self.assertEqual(circle_view(twin, 3), view)
        self.assertEqual(circle_view(circle.twin(), 3), view)

    def test_opening_changes_nothing_handed_in(self):
        queue = answer(self, lambda *handed: Circle(*handed).queue(), 10, [0, 20, 10], [3, 3, 3], True)
        self.assertEqual(queue, [1, 2, 0])


class RefusedOpeningTest(unittest.TestCase):
    def wrong(self, *handed):
        refused(self, BadNumber, Circle, *handed)

    def test_stake(self):
        for stake in (0, -1, -10, 1000001, 10 ** 30):
            self.wrong(stake, [MOST, MOST], [1, 2])
        for stake in (1, 1000000):
            self.assertEqual(Circle(stake, [MOST, MOST], [1, 2]).owed(0), 2 * stake)

    def test_seats(self):
        for many in (0, 1, 21, 22, 40):
            self.wrong(1, [MOST] * many, [many] * many)
        for many in (2, 20):
            self.assertEqual(Circle(1, [MOST] * many, [many] * many).queue(), list(range(many)))

    def test_as_many_wishes_as_pledges(self):
        self.wrong(10, [20, 20, 20], [3, 3])
        self.wrong(10, [20, 20], [2, 2, 2])
        self.wrong(10, [20, 20], [])
        self.wrong(10, [], [1, 2])
        self.wrong(10, [0] * 20, [20] * 21)
        self.wrong(10, [0] * 3, [2])

    def test_pledges(self):
        for pledge in (-1, -MOST, MOST + 1, 10 ** 30):
            self.wrong(10, [pledge, 20], [2, 2])
            self.wrong(10, [20, pledge], [2, 2])
        circle = Circle(10, [MOST, 0], [2, 2])
        self.assertEqual((circle.seat(0)[2], circle.seat(1)[2]), (MOST, 0))

    def test_wishes(self):
        for wish in (0, -1, 3, 10 ** 30):
            self.wrong(10, [20, 20], [wish, 2])
            self.wrong(10, [20, 20], [2, wish])
        self.assertEqual(Circle(10, [20, 20], [2, 1]).queue(), [1, 0])

    def test_numbers_go_ahead_of_orders(self):
        self.wrong(0, [0, 0], [1, 1])
        self.wrong(10, [0, 0, 0], [1, 1, 4])
        self.wrong(10, [0, 0, -1], [1, 1, 1])
        self.wrong(10, [0, 0, 0], [1, 1])
        self.wrong(10, [0, MOST + 1, 0], [1, 1, 1])
        refused(self, NoOrder, Circle, 10, [0, 0], [1, 1])

    def test_every_refusal_is_a_susu_error(self):
        for handed in ((0, [1, 1], [1, 2]), (1, [0, 0], [1, 1])):
            with self.assertRaises(SusuError):
                Circle(*handed)

    def test_seats_that_are_not_there(self):
        circle = Circle(10, [20, 10, 0], [1, 2, 3])
        for at in (-1, -3, 3, 4, 10 ** 30, -10 ** 30):
            for ask in (circle.seat, circle.owed, circle.expected, circle.flow):
                refused(self, NoSeat, ask, at)


if __name__ == "__main__":
    unittest.main()
