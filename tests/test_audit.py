"""susu.audit: rows of reports that follow from an opening, and rows that go wrong (point 17)."""

import random
import unittest

from susu.audit import first_wrong
from susu.circle import Circle
from tests.checks import numbers
from tests.test_circle_promises import bids_by_chance, opening_by_chance

FAR = 10 ** 30


def plain_wrong(stake, pledges, queue, bidding, reports):
    """The first report that does not follow, each looked at by the words of point 17."""
    for number in range(len(reports)):
        if not plain_follows(stake, pledges, queue, bidding, reports[:number], reports[number]):
            return number
    return -1


def plain_follows(stake, pledges, queue, bidding, ahead, report):
    many = len(pledges)
    turn, kind, seat, coins, share, fell, pledged = report
    gone = [at for row in ahead for at in row[5]]
    drew = [row[2] for row in ahead if row[1] == "draw"]
    paid = [at for row in ahead for at in row[6]]
    waits = [at for at in queue if at not in gone and at not in drew]
    unfallen = [at for at in range(many) if at not in gone and at not in fell]
    rests = len(gone) - len(ahead) + len(drew)
    if turn != len(ahead) + 1 or turn > many or fell != sorted(set(fell)) or pledged != sorted(set(pledged)):
        return False
    if any(at not in waits for at in fell) or any(at not in drew for at in pledged):
        return False
    if any(pledges[at] - stake * paid.count(at) < stake for at in pledged):
        return False
    if rests + len(fell) > 0:
        return kind == "box" and seat == -1 and share == 0 and coins == stake * len(unfallen)
    if kind != "draw" or seat not in waits or seat in fell or pledges[seat] < stake * (many - turn):
        return False
    if not bidding and (seat != waits[0] or share != 0):
        return False
    if share < 0 or (len(unfallen) == 1 and share != 0):
        return False
    return coins == stake * many - share * (len(unfallen) - 1) and coins >= 0


def run_by_chance(chance):
    """An opening and the reports of a circle that was closed to its end."""
    stake, pledges, wishes = opening_by_chance(chance)
    many, bidding = len(pledges), chance.random() < 0.6
    circle = Circle(stake, pledges, wishes, bidding)
    queue, reports = circle.queue(), []
    falling = chance.choice([0.0, 0.1, 0.3])
    while not circle.ended():
        paid = [chance.random() >= falling for _ in range(many)]
        reports.append(circle.close(paid, bids_by_chance(chance, stake * many, many)))
    return stake, pledges, queue, bidding, reports


def spoilt_number(chance, number, stake):
    return chance.choice([number + 1, number - 1, 0, -1, -number, number + stake, number - stake, FAR, -FAR])


def spoilt_list(chance, row, many):
    at = chance.choice(list(range(-2, many + 2)) + [FAR])
    choices = [row + [at], [at] + row, sorted(row + [at]), sorted(set(row + [at])), row[1:], row[:-1], row[::-1], []]
    return chance.choice(choices)


def spoilt_report(chance, report, stake, many):
    """The report with one or two of its places changed."""
    parts = list(report)
    for place in chance.sample(range(7), chance.choice([1, 1, 2])):
        if place == 1:
            parts[1] = chance.choice(["box", "draw", "", "Box", "draw "])
        elif place > 4:
            parts[place] = spoilt_list(chance, parts[place], many)
        else:
            parts[place] = spoilt_number(chance, parts[place], stake)
    return tuple(parts)


class PlainRowsTest(unittest.TestCase):
    """Rows of a circle without bidding, changed at one thing each."""

    OPENING = (10, [30, 20, 10, 0], [0, 1, 2, 3], False)
    ROW = [
        (1, "draw", 0, 40, 0, [], []),
        (2, "box", -1, 30, 0, [3], [0]),
        (3, "draw", 1, 40, 0, [], [0]),
        (4, "draw", 2, 40, 0, [], [0, 1]),
    ]

    def wrong_at(self, number, reports, opening=None):
        self.assertEqual(numbers(self, first_wrong, *(opening or self.OPENING), reports), number, reports)

    def changed(self, number, report):
        """The row with this report in the place of its own is wrong just there."""
        self.wrong_at(number, self.ROW[:number] + [report] + self.ROW[number + 1:])
        self.wrong_at(number, self.ROW[:number] + [report])

    def test_rows_that_follow(self):
        for many in range(5):
            self.wrong_at(-1, self.ROW[:many])
        self.wrong_at(-1, [], (10, [10, 0], [0, 1], True))

    def test_rounds(self):
        for number in range(4):
            row = self.ROW[number]
            for turn in (row[0] - 1, row[0] + 1, 0, -1, FAR, -FAR, number):
                self.changed(number, (turn,) + row[1:])
        self.wrong_at(0, self.ROW[1:])
        self.wrong_at(1, [self.ROW[0], self.ROW[0]])

    def test_no_round_beyond_the_last(self):
        for more in ((5, "draw", 3, 40, 0, [], []), (5, "box", -1, 30, 0, [], []), (5, "draw", 2, 40, 0, [], [])):
            self.wrong_at(4, self.ROW + [more])

    def test_box_or_draw_as_rests_are_due(self):
        self.changed(0, (1, "box", -1, 40, 0, [], []))
        self.changed(1, (2, "draw", 1, 40, 0, [3], [0]))
        self.changed(2, (3, "box", -1, 30, 0, [], [0]))
        for kind in ("", "Draw", "draw ", "rest", "box", "waits"):
            self.changed(0, (1, kind, 0, 40, 0, [], []))
        for kind in ("", "Box", "draw", "boxes"):
            self.changed(1, (2, kind, -1, 30, 0, [3], [0]))

    def test_rests_stay_due(self):
        first = (1, "box", -1, 20, 0, [1, 3], [])
        self.wrong_at(-1, [first, (2, "box", -1, 20, 0, [], []), (3, "draw", 0, 40, 0, [], [])])
        self.wrong_at(1, [first, (2, "draw", 0, 40, 0, [], [])])
        self.wrong_at(2, [first, (2, "box", -1, 20, 0, [], []), (3, "box", -1, 20, 0, [], [])])
        self.wrong_at(-1, [first, (2, "box", -1, 10, 0, [2], []), (3, "box", -1, 10, 0, [], [])])

    def test_coins_of_the_box(self):
        for coins in (0, 20, 29, 31, 40, -30, FAR):
            self.changed(1, (2, "box", -1, coins, 0, [3], [0]))

    def test_seat_and_share_of_the_box(self):
        for seat in (0, 1, 3, -2, FAR):
            self.changed(1, (2, "box", seat, 30, 0, [3], [0]))
        for share in (1, -1, 10, FAR):
            self.changed(1, (2, "box", -1, 30, share, [3], [0]))

    def test_the_head_draws(self):
        for seat in (1, 2, 3, -1, -4, 4, FAR):
            self.changed(0, (1, "draw", seat, 40, 0, [], []))
        for seat in (0, 2, 3, -1):
            self.changed(2, (3, "draw", seat, 40, 0, [], [0]))
        covered = (10, [30, 30, 30, 30], [2, 0, 3, 1], False)
        self.wrong_at(-1, [(1, "draw", 2, 40, 0, [], []), (2, "draw", 0, 40, 0, [], [])], covered)
        for seat in (0, 1, 3):
            self.wrong_at(0, [(1, "draw", seat, 40, 0, [], [])], covered)

    def test_coins_and_share_of_a_draw(self):
        for coins in (0, 30, 39, 41, -40, FAR):
            self.changed(0, (1, "draw", 0, coins, 0, [], []))
        for coins, share in ((37, 1), (40, 1), (10, 10), (43, -1), (40, -1)):
            self.changed(0, (1, "draw", 0, coins, share, [], []))

    def test_the_draw_is_covered(self):
        for pledge, number in ((30, -1), (29, 0), (0, 0)):
            self.wrong_at(number, self.ROW[:1], (10, [pledge, 20, 10, 0], [0, 1, 2, 3], False))
        self.wrong_at(0, [(1, "draw", 3, 40, 0, [], [])], (10, [30, 20, 10, 0], [3, 2, 1, 0], False))
        late = [(1, "box", -1, 30, 0, [0], []), (2, "draw", 3, 40, 0, [], [])]
        self.wrong_at(1, late, (10, [30, 20, 10, 19], [3, 2, 1, 0], False))
        self.wrong_at(-1, late, (10, [30, 20, 10, 20], [3, 2, 1, 0], False))

    def test_the_fallen_waited(self):
        self.changed(0, (1, "box", -1, 30, 0, [4], []))
        self.changed(0, (1, "box", -1, 30, 0, [-1], []))
        self.changed(0, (1, "box", -1, 30, 0, [FAR], []))
        self.changed(1, (2, "box", -1, 30, 0, [0], []))
        self.wrong_at(1, [(1, "box", -1, 30, 0, [3], []), (2, "box", -1, 20, 0, [3], [])])
        self.wrong_at(1, [(1, "box", -1, 30, 0, [3], []), (2, "box", -1, 30, 0, [3], [])])
        self.changed(2, (3, "box", -1, 20, 0, [0], [0]))

    def test_lists_grow(self):
        self.changed(1, (2, "box", -1, 20, 0, [3, 2], [0]))
        self.changed(1, (2, "box", -1, 20, 0, [3, 3], [0]))
        self.changed(1, (2, "box", -1, 30, 0, [3, 3], [0]))
        self.wrong_at(-1, [self.ROW[0], (2, "box", -1, 20, 0, [2, 3], [0])])
        self.changed(3, (4, "draw", 2, 40, 0, [], [1, 0]))
        self.changed(3, (4, "draw", 2, 40, 0, [], [0, 0]))
        self.changed(3, (4, "draw", 2, 40, 0, [], [1, 1]))

    def test_those_that_paid_out_of_their_pledge_drew_earlier(self):
        self.changed(0, (1, "draw", 0, 40, 0, [], [0]))
        self.changed(1, (2, "box", -1, 30, 0, [3], [1]))
        self.changed(1, (2, "box", -1, 30, 0, [3], [0, 1]))
        self.changed(1, (2, "box", -1, 30, 0, [3], [3]))
        self.changed(2, (3, "draw", 1, 40, 0, [], [0, 1]))
        self.changed(2, (3, "draw", 1, 40, 0, [], [0, 3]))
        for at in (-1, -4, 4, FAR, -FAR):
            self.changed(3, (4, "draw", 2, 40, 0, [], sorted([0, at])))
        self.wrong_at(-1, self.ROW[:3] + [(4, "draw", 2, 40, 0, [], [])])
        self.wrong_at(-1, self.ROW[:3] + [(4, "draw", 2, 40, 0, [], [1])])

    def test_a_fallen_seat_does_not_draw(self):
        self.wrong_at(3, self.ROW[:3] + [(4, "draw", 3, 40, 0, [], [0, 1])])
        self.wrong_at(0, [(1, "draw", 0, 40, 0, [0], [])])
        self.wrong_at(0, [(1, "draw", 0, 40, 0, [3], [])])

    def test_the_first_wrong_one_of_several(self):
        bad = (9, "none", 7, -1, -1, [9, 9], [8, 8])
        self.wrong_at(0, [bad] * 4)
        self.wrong_at(2, self.ROW[:2] + [bad, bad])
        self.wrong_at(1, [self.ROW[0], bad] + self.ROW[2:])


class BiddingRowsTest(PlainRowsTest):
    """Rows of a circle with bidding; what is changed above is wrong there, too, but for who may draw."""

    OPENING = (10, [30, 20, 10, 0], [0, 1, 2, 3], True)
    FREE = (10, [30, 30, 30, 30], [2, 0, 3, 1], True)
    FREE_ROW = [
        (1, "draw", 3, 34, 2, [], []),
        (2, "draw", 2, 40, 0, [], [3]),
        (3, "box", -1, 30, 0, [1], []),
        (4, "draw", 0, 30, 5, [], [2, 3]),
    ]

    def test_the_head_draws(self):
        """Any waiting seat may draw that is covered."""
        for many in range(5):
            self.wrong_at(-1, self.FREE_ROW[:many], self.FREE)
        for seat in range(4):
            self.wrong_at(-1, [(1, "draw", seat, 40, 0, [], [])], self.FREE)
            self.wrong_at(0 if seat else -1, [(1, "draw", seat, 40, 0, [], [])])
        for seat in (-1, -2, 4, FAR):
            self.wrong_at(0, [(1, "draw", seat, 40, 0, [], [])], self.FREE)
        for seat in (2, 3, 1):
            self.wrong_at(3, self.FREE_ROW[:3] + [(4, "draw", seat, 30, 5, [], [2, 3])], self.FREE)

    def test_coins_and_share_of_a_draw(self):
        for share in range(-2, 16):
            number = -1 if 0 <= share <= 13 else 0
            self.wrong_at(number, [(1, "draw", 1, 40 - 3 * share, share, [], [])], self.FREE)
            for coins in (39 - 3 * share, 41 - 3 * share):
                self.wrong_at(0, [(1, "draw", 1, coins, share, [], [])], self.FREE)
        self.wrong_at(0, [(1, "draw", 1, 40 - 3 * FAR, FAR, [], [])], self.FREE)
        self.wrong_at(0, [(1, "draw", 1, 40 + 3 * FAR, -FAR, [], [])], self.FREE)

    def test_a_draw_of_nought(self):
        opening = (10, [10, 10], [0, 1], True)
        self.wrong_at(-1, [(1, "draw", 1, 0, 20, [], [])], opening)
        self.wrong_at(0, [(1, "draw", 1, -1, 21, [], [])], opening)

    def test_shares_of_those_that_are_left(self):
        ahead = self.FREE_ROW[:3]
        self.wrong_at(-1, ahead + [(4, "draw", 0, 0, 20, [], [])], self.FREE)
        self.wrong_at(3, ahead + [(4, "draw", 0, 25, 5, [], [])], self.FREE)
        self.wrong_at(3, ahead + [(4, "draw", 0, -2, 21, [], [])], self.FREE)

    def test_no_other_seat_is_left(self):
        opening = (10, [10, 10], [0, 1], True)
        ahead = [(1, "box", -1, 10, 0, [1], [])]
        self.wrong_at(-1, ahead + [(2, "draw", 0, 20, 0, [], [])], opening)
        for coins, share in ((20, 5), (20, 1), (20, -1), (15, 5), (19, 0)):
            self.wrong_at(1, ahead + [(2, "draw", 0, coins, share, [], [])], opening)


class RowsByChanceTest(unittest.TestCase):
    def test_rows_of_circles_follow(self):
        chance = random.Random(54)
        for _ in range(400):
            opening = run_by_chance(chance)
            self.assertEqual(numbers(self, first_wrong, *opening), -1)

    def test_spoilt_rows(self):
        chance = random.Random(55)
        wrong = 0
        for _ in range(4000):
            stake, pledges, queue, bidding, reports = run_by_chance(chance)
            many = len(pledges)
            for _ in range(chance.choice([1, 1, 2])):
                at = chance.randrange(many)
                reports[at] = spoilt_report(chance, reports[at], stake, many)
            if chance.random() < 0.2:
                bidding = not bidding
            if chance.random() < 0.2:
                pledges[chance.randrange(many)] = stake * chance.randrange(many)
            if chance.random() < 0.1:
                chance.shuffle(queue)
            told = first_wrong(stake, pledges, queue, bidding, reports)
            self.assertEqual(told, plain_wrong(stake, pledges, queue, bidding, reports))
            wrong += told != -1
        self.assertTrue(2000 < wrong < 3990, wrong)


if __name__ == "__main__":
    unittest.main()
