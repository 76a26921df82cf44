"""susu.circle: what holds whatever anybody leaves unpaid (points 1 and 11 to 16), in runs by chance."""

import itertools
import random
import unittest

from susu.circle import Circle
from tests.checks import holds_truth
from tests.plain import PlainCircle, first_queue
from tests.views import circle_view, outcome


def opening_by_chance(chance, most_seats=7):
    """An opening that has an order: pledges at least as its hidden order asks for, often just as much."""
    many = chance.randint(2, most_seats)
    stake = chance.choice([1, 7, 10, 1000000])
    turns = chance.sample(range(1, many + 1), many)
    pledges = [stake * (many - max(1, turn - chance.choice([0, 0, 0, 1, many]))) for turn in turns]
    pledges = [pledge + chance.choice([0, 0, 1, stake - 1]) for pledge in pledges]
    wishes = [chance.randint(turn, many) for turn in turns]
    return stake, pledges, wishes


def bids_by_chance(chance, pot, many):
    if chance.random() < 0.2:
        return [0] * many
    return [chance.choice([0, 0, 1, many, pot // 2, pot, chance.randint(0, pot)]) for _ in range(many)]


class AgainstThePlainOneTest(unittest.TestCase):
    """The circle beside the one that reckons all anew."""

    def act(self, chance, circle, plain, many):
        """One thing done to both, often one that is refused."""
        deed = chance.choice(["close", "close", "close", "lay", "swap", "swap", "wrong"])
        seat = lambda: chance.randrange(many) if chance.random() < 0.95 else chance.choice([-1, many, many + 3])
        if deed == "lay":
            handed = (seat(), chance.choice([1, 5, plain.stake, plain.stake * many, 1000000000, 0, 1000000001]))
        elif deed == "swap":
            handed = (seat(), seat())
        else:
            payers = chance.choice([1.0, 0.9, 0.7, 0.3])
            handed = ([chance.random() < payers for _ in range(many)], bids_by_chance(chance, plain.pot(), many))
            if deed == "wrong":
                wrong = chance.choice([handed[1] + [0], handed[1][1:], [-1] * many, [plain.pot() + 1] * many])
                handed = (handed[0], wrong)
            deed = "close"
        told = outcome(getattr(circle, deed), *handed)
        self.assertEqual(told, outcome(getattr(plain, deed), *handed), (deed, handed))
        self.assertFalse(holds_truth(told[1]), told)

    def test_runs_by_chance(self):
        chance = random.Random(52)
        for run in range(500):
            stake, pledges, wishes = opening_by_chance(chance)
            many, bidding = len(pledges), chance.random() < 0.6
            circle, plain = Circle(stake, pledges, wishes, bidding), PlainCircle(stake, pledges, wishes, bidding)
            twins = []
            while not circle.ended() or chance.random() < 0.7:
                self.act(chance, circle, plain, many)
                view = circle_view(plain, many)
                self.assertEqual(circle_view(circle, many), view)
                self.assertFalse(any(holds_truth(view[name]) for name in view if name != "ended"))
                if chance.random() < 0.1:
                    twins.append((circle, view))
                    circle = circle.twin()
            for twin, view in twins:
                self.assertEqual(circle_view(twin, many), view)


class PromiseTest(unittest.TestCase):
    """Point 1 by its own words, with the circle's answers alone."""

    def run_to_the_end(self, chance, circle, stake, many, falling):
        """Close all rounds; tells the reports and the coins that were paid by hand, by seats."""
        reports, by_hand = [], [0] * many
        while not circle.ended():
            paid = [chance.random() > falling for _ in range(many)]
            for at in range(many):
                if paid[at] and circle.seat(at)[0] != "fell":
                    by_hand[at] += stake
            reports.append(circle.close(paid, bids_by_chance(chance, stake * many, many)))
            self.assertGreaterEqual(circle.box(), 0)
            self.assertTrue(all(circle.seat(at)[2] >= 0 for at in range(many)))
            self.assertEqual(circle.rests() + len(circle.queue()), many + 1 - circle.turn())
        return reports, by_hand

    def look_at_the_end(self, circle, stake, pledges, reports, by_hand):
        """Each seat's coins at the end."""
        many = len(pledges)
        fallen = [at for report in reports for at in report[5]]
        draws = {report[2]: report for report in reports if report[1] == "draw"}
        self.assertEqual(sorted(draws), [at for at in range(many) if at not in fallen])
        self.assertEqual(len(draws), sum(report[1] == "draw" for report in reports))
        left = 0
        for at in range(many):
            state, since, pledge, given, drawn, shared, stakes = circle.seat(at)
            if at in fallen:
                self.assertEqual((state, drawn), ("fell", 0))
                self.assertEqual(circle.refunds()[at], pledges[at] + by_hand[at])
                self.assertEqual((given, stakes), (stake * (since - 1), 0))
                left += given
            else:
                turn, kind, drawer, coins, share, fell, pledged = draws[at]
                others = many - 1 - sum(len(report[5]) for report in reports[:turn])
                self.assertEqual((state, since, drawn), ("drew", turn, stake * many - share * others))
                self.assertEqual(given, stake * many)
                self.assertEqual(by_hand[at] + stake * stakes, given)
                self.assertEqual(circle.refunds()[at], pledges[at] - stake * stakes)
            self.assertEqual(sum(circle.flow(at)), drawn + shared - given)
        self.assertEqual(circle.box(), left)
        came = sum(pledges) + sum(by_hand)
        went = sum(sum(circle.seat(at)[4:6]) for at in range(many)) + sum(circle.refunds())
        self.assertEqual(came, went)

    def test_every_coin_in_runs_by_chance(self):
        chance = random.Random(53)
        for run in range(1200):
            stake, pledges, wishes = opening_by_chance(chance, 9)
            circle = Circle(stake, pledges, wishes, run % 2 == 1)
            falling = chance.choice([0.0, 0.05, 0.2, 0.5, 0.9])
            reports, by_hand = self.run_to_the_end(chance, circle, stake, len(pledges), falling)
            self.look_at_the_end(circle, stake, pledges, reports, by_hand)
            if run % 2 == 0:
                self.look_at_the_rounds(circle, stake, pledges, wishes)

    def look_at_the_rounds(self, circle, stake, pledges, wishes):
        """Without bidding and exchanges a draw is later by one round for each seat behind that fell up to then."""
        queue = first_queue(stake, pledges, wishes)
        for place, at in enumerate(queue):
            state, since = circle.seat(at)[:2]
            if state == "drew":
                behind = [circle.seat(other)[:2] for other in queue[place + 1:]]
                fell = sum(state == "fell" and turn <= since for state, turn in behind)
                self.assertEqual(since, place + 1 + fell)

    def test_all_ways_to_leave_stakes_of_three_seats_unpaid(self):
        ways = list(itertools.product(itertools.product([True, False], repeat=3), repeat=3))
        for stake, pledges, wishes in ((10, [20, 10, 0], [1, 2, 3]), (3, [0, 3, 6], [3, 3, 3])):
            for bids in ([0, 0, 0], [2, 9, 4]):
                for way in ways:
                    circle = Circle(stake, pledges, wishes, bids != [0, 0, 0])
                    reports, by_hand = [], [0, 0, 0]
                    for paid in way:
                        for at in range(3):
                            by_hand[at] += stake * (paid[at] and circle.seat(at)[0] != "fell")
                        reports.append(circle.close(list(paid), bids))
                    self.look_at_the_end(circle, stake, pledges, reports, by_hand)

    def test_the_largest_circle(self):
        many, stake = 20, 1000000
        circle = Circle(stake, [stake * 19] * many, [many] * many, True)
        for turn in range(1, many + 1):
            report = circle.close([at < 10 for at in range(many)], [turn] * many)
            self.assertEqual(report[0], turn)
        self.assertEqual(circle.box(), 0)
        self.assertEqual([circle.seat(at)[1] for at in range(10)], list(range(11, 21)))
        self.assertEqual(circle.refunds(), [stake * 19] * many)


if __name__ == "__main__":
    unittest.main()
