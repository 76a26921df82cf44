"""susu.plan: covered rounds, orders and bars (points 2 to 6)."""

import itertools
import random
import unittest

from susu.plan import first_covered, good_paper, order_or_bar, within
from tests.checks import answer, numbers

FAR = 10 ** 30


def covered(stake, seats, pledge, turn):
    """Whether a draw in this round is covered, by the words of point 3."""
    return pledge >= stake * (seats - turn)


def fits(windows, row):
    """Whether the row is an order, by the words of point 4."""
    if sorted(row) != list(range(len(windows))):
        return False
    return all(windows[at][0] <= turn <= windows[at][1] for turn, at in enumerate(row, start=1))


def has_order(windows):
    return any(fits(windows, row) for row in itertools.permutations(range(len(windows))))


def bars(windows, a, b, crowd):
    """Whether a, b and crowd are a bar, by the words of point 5."""
    many = len(windows)
    growing = all(crowd[k] < crowd[k + 1] for k in range(len(crowd) - 1))
    theirs = all(0 <= at < many for at in crowd)
    return (
        1 <= a <= many and 1 <= b <= many and growing and theirs
        and all(a <= windows[at][0] and windows[at][1] <= b for at in crowd)
        and len(crowd) > (b - a + 1 if b >= a else 0)
    )


def all_windows(many):
    """Every row of so many windows."""
    rounds = range(1, many + 1)
    return itertools.product(itertools.product(rounds, rounds), repeat=many)


def some_windows(chance, many):
    """Windows by chance, the most of them wide enough that there is an order now and then."""
    row = []
    for _ in range(many):
        first = chance.randint(1, chance.randint(1, many))
        row.append((first, chance.randint(max(1, first - chance.randint(0, 1)), many)))
    return row


def solvable_windows(chance, many):
    """Windows by chance around a hidden order."""
    hidden = list(range(1, many + 1))
    chance.shuffle(hidden)
    return [(chance.randint(max(1, turn - 4), turn), chance.randint(turn, min(many, turn + 4))) for turn in hidden]


class FirstCoveredTest(unittest.TestCase):
    def test_the_least_covered_round(self):
        for stake in range(1, 5):
            for seats in range(1, 9):
                for pledge in range(0, stake * seats + 3):
                    told = numbers(self, first_covered, stake, seats, pledge)
                    self.assertGreaterEqual(told, 1)
                    self.assertTrue(covered(stake, seats, pledge, told))
                    self.assertFalse(any(covered(stake, seats, pledge, turn) for turn in range(1, told)))

    def test_exactly_covered_and_one_coin_short(self):
        self.assertEqual(first_covered(10, 5, 40), 1)
        self.assertEqual(first_covered(10, 5, 39), 2)
        self.assertEqual(first_covered(10, 5, 30), 2)
        self.assertEqual(first_covered(10, 5, 29), 3)
        self.assertEqual(first_covered(10, 5, 10), 4)
        self.assertEqual(first_covered(10, 5, 9), 5)

    def test_without_a_pledge_the_last_round(self):
        self.assertEqual(first_covered(1, 20, 0), 20)
        self.assertEqual(first_covered(1000000, 2, 0), 2)

    def test_never_below_the_first_round(self):
        self.assertEqual(first_covered(10, 5, 41), 1)
        self.assertEqual(first_covered(1, 2, 1000000000), 1)
        self.assertEqual(first_covered(7, 1, 0), 1)

    def test_very_many_seats_are_told_soon(self):
        self.assertEqual(first_covered(1, FAR, 0), FAR)
        self.assertEqual(first_covered(3, FAR, 3 * 10 ** 20), FAR - 10 ** 20)
        self.assertEqual(first_covered(3, FAR, 3 * 10 ** 20 - 1), FAR - 10 ** 20 + 1)
        self.assertEqual(first_covered(FAR, FAR, FAR * (FAR - 1)), 1)
        self.assertEqual(first_covered(FAR, FAR, FAR * (FAR - 1) - 1), 2)
        self.assertEqual(first_covered(1, 10 ** 6, FAR), 1)


class WithinTest(unittest.TestCase):
    WINDOWS = [(2, 4), (1, 3), (3, 3), (4, 2), (1, 5)]

    def test_windows_that_lie_within(self):
        self.assertEqual(numbers(self, within, self.WINDOWS, 1, 5), [0, 1, 2, 3, 4])
        self.assertEqual(numbers(self, within, self.WINDOWS, 2, 4), [0, 2, 3])
        self.assertEqual(numbers(self, within, self.WINDOWS, 1, 3), [1, 2, 3])
        self.assertEqual(numbers(self, within, self.WINDOWS, 3, 3), [2, 3])
        self.assertEqual(numbers(self, within, self.WINDOWS, 5, 5), [])

    def test_a_window_without_rounds_lies_within_less_than_a_round(self):
        self.assertEqual(numbers(self, within, self.WINDOWS, 4, 2), [3])
        self.assertEqual(numbers(self, within, self.WINDOWS, 4, 1), [])
        self.assertEqual(numbers(self, within, self.WINDOWS, 5, 2), [])

    def test_bounds_of_any_size(self):
        self.assertEqual(numbers(self, within, self.WINDOWS, -FAR, FAR), [0, 1, 2, 3, 4])
        self.assertEqual(numbers(self, within, self.WINDOWS, FAR, FAR), [])
        self.assertEqual(numbers(self, within, self.WINDOWS, -FAR, -FAR), [])
        self.assertEqual(numbers(self, within, self.WINDOWS, FAR, -FAR), [])
        self.assertEqual(numbers(self, within, self.WINDOWS, 0, 3), [1, 2, 3])

    def test_no_windows(self):
        self.assertEqual(numbers(self, within, [], 1, 1), [])

    def test_every_pair_of_rounds(self):
        for windows in all_windows(2):
            for a, b in itertools.product(range(4), repeat=2):
                told = within(list(windows), a, b)
                self.assertEqual(told, [at for at in range(2) if windows[at][0] >= a and windows[at][1] <= b])


class OrderOrBarTest(unittest.TestCase):
    def check_told(self, windows, row):
        """The row is the told order: round by round, by the words of point 4."""
        self.assertTrue(fits(windows, row), (windows, row))
        left = list(range(len(windows)))
        for turn, at in enumerate(row, start=1):
            ready = [k for k in left if windows[k][0] <= turn]
            least = min(windows[k][1] for k in ready)
            self.assertEqual(at, min(k for k in ready if windows[k][1] == least), (windows, row))
            left.remove(at)

    def check_paper(self, windows):
        """The paper is the told order or a bar; tells which."""
        paper = order_or_bar(windows)
        self.assertIsInstance(paper, tuple)
        if paper[0] == "order":
            self.assertEqual(len(paper), 2)
            self.assertIsInstance(paper[1], list)
            self.check_told(windows, paper[1])
        else:
            word, a, b, crowd = paper
            self.assertEqual(word, "bar")
            self.assertIsInstance(crowd, list)
            self.assertTrue(bars(windows, a, b, crowd), (windows, paper))
        self.assertIs(good_paper(windows, paper), True)
        return paper[0]

    def test_no_windows(self):
        self.assertEqual(numbers(self, order_or_bar, []), ("order", []))

    def test_one_window(self):
        self.assertEqual(numbers(self, order_or_bar, [(1, 1)]), ("order", [0]))

    def test_the_least_last_goes_first(self):
        self.assertEqual(numbers(self, order_or_bar, [(1, 3), (1, 2), (1, 1)]), ("order", [2, 1, 0]))
        self.assertEqual(numbers(self, order_or_bar, [(1, 3), (2, 2), (1, 3)]), ("order", [0, 1, 2]))

    def test_of_equal_lasts_the_lesser_number(self):
        self.assertEqual(numbers(self, order_or_bar, [(1, 4)] * 4), ("order", [0, 1, 2, 3]))
        # Number 2 may go earlier, but number 1 has the same last and the lesser number once it is ready.
        self.assertEqual(numbers(self, order_or_bar, [(1, 4), (2, 3), (1, 3), (1, 4)]), ("order", [2, 1, 0, 3]))
        self.assertEqual(numbers(self, order_or_bar, [(2, 3), (1, 3), (1, 3)]), ("order", [1, 0, 2]))

    def test_bars_of_too_narrow_windows(self):
        for windows in ([(1, 1), (1, 1)], [(2, 2), (2, 2)], [(1, 2), (1, 2), (1, 2)], [(3, 3), (1, 3), (3, 3)]):
            self.assertEqual(numbers(self, order_or_bar, windows)[0], "bar")
            self.check_paper(windows)

    def test_a_window_without_rounds_is_a_bar(self):
        self.assertEqual(numbers(self, order_or_bar, [(2, 1), (1, 2)])[0], "bar")
        for windows in ([(2, 1), (1, 2)], [(1, 3), (3, 1), (1, 3)], [(1, 4), (1, 4), (4, 1), (1, 4)]):
            self.assertEqual(self.check_paper(windows), "bar")

    def test_a_round_that_no_window_reaches(self):
        self.assertEqual(self.check_paper([(2, 3), (2, 3), (2, 3)]), "bar")
        self.assertEqual(self.check_paper([(1, 2), (1, 2), (1, 2)]), "bar")

    def test_every_row_of_few_windows(self):
        for many in range(1, 4):
            for row in all_windows(many):
                windows = list(row)
                self.assertEqual(self.check_paper(windows) == "order", has_order(windows), windows)

    def test_rows_of_more_windows(self):
        chance = random.Random(4)
        seen = {"order": 0, "bar": 0}
        for _ in range(400):
            windows = some_windows(chance, chance.randint(4, 6))
            word = self.check_paper(windows)
            self.assertEqual(word == "order", has_order(windows), windows)
            seen[word] += 1
        self.assertGreater(min(seen.values()), 20)

    def test_twenty_windows(self):
        chance = random.Random(20)
        self.assertEqual(numbers(self, order_or_bar, [(1, 20)] * 20), ("order", list(range(20))))
        single = [(turn, turn) for turn in range(20, 0, -1)]
        self.assertEqual(numbers(self, order_or_bar, single), ("order", list(range(19, -1, -1))))
        for _ in range(50):
            windows = solvable_windows(chance, 20)
            self.assertEqual(self.check_paper(windows), "order")
            windows[chance.randint(0, 19)] = (11, 10)
            self.assertEqual(self.check_paper(windows), "bar")
            windows = solvable_windows(chance, 20)
            at = chance.randint(1, 19)
            for k in range(3):
                windows[(at + k) % 20] = (at, at + 1)
            self.assertEqual(self.check_paper(windows), "bar")

    def test_more_windows_than_twenty_raise_no_error(self):
        self.assertEqual(order_or_bar([(1, 25)] * 25), ("order", list(range(25))))
        self.assertEqual(self.check_paper([(1, 24)] * 25), "bar")

    def test_windows_beyond_the_rounds_raise_no_error(self):
        self.assertEqual(order_or_bar([(0, 2), (-1, 9)]), ("order", [0, 1]))
        for windows in ([(2, 2)], [(0, 0), (0, 0)], [(5, 6), (1, 1)], [(3, 0)]):
            self.assertEqual(order_or_bar(windows)[0], "bar")


class GoodPaperTest(unittest.TestCase):
    WINDOWS = [(1, 3), (1, 2), (1, 3)]
    CROWDED = [(1, 4), (2, 3), (2, 3), (2, 3)]

    def judge(self, windows, paper):
        told = answer(self, good_paper, windows, paper)
        self.assertIsInstance(told, bool)
        return told

    def test_any_order_is_good(self):
        for row in itertools.permutations(range(3)):
            self.assertIs(self.judge(self.WINDOWS, ("order", list(row))), fits(self.WINDOWS, row))
        self.assertIs(self.judge(self.WINDOWS, ("order", [2, 1, 0])), True)
        self.assertIs(self.judge(self.WINDOWS, ("order", [0, 2, 1])), False)

    def test_rows_that_are_no_order(self):
        for row in ([], [1, 0], [1, 0, 2, 2], [1, 0, 0], [1, 0, 3], [1, 0, -1], [-2, 0, 2], [1, 0, FAR], [-FAR, 0, 2]):
            self.assertIs(self.judge(self.WINDOWS, ("order", row)), False)

    def test_bars_that_are_good(self):
        for paper in (("bar", 2, 3, [1, 2, 3]), ("bar", 1, 3, [1, 2, 3]), ("bar", 2, 3, [1, 2])):
            self.assertIs(self.judge(self.CROWDED, paper), bars(self.CROWDED, *paper[1:]))
        self.assertIs(self.judge(self.CROWDED, ("bar", 2, 3, [1, 2, 3])), True)

    def test_a_bar_needs_not_all_that_lie_within(self):
        windows = [(1, 1), (1, 1), (1, 1), (1, 4)]
        for crowd in ([0, 1, 2], [0, 1], [0, 2], [1, 2]):
            self.assertIs(self.judge(windows, ("bar", 1, 1, crowd)), True)
        self.assertIs(self.judge(windows, ("bar", 1, 1, [1])), False)

    def test_a_bar_of_a_window_without_rounds(self):
        windows = [(1, 3), (3, 1), (1, 3)]
        self.assertIs(self.judge(windows, ("bar", 3, 1, [1])), True)
        self.assertIs(self.judge(windows, ("bar", 2, 1, [1])), True)
        self.assertIs(self.judge(windows, ("bar", 3, 2, [1])), True)
        self.assertIs(self.judge(windows, ("bar", 3, 1, [])), False)
        self.assertIs(self.judge(windows, ("bar", 3, 1, [0])), False)
        self.assertIs(self.judge(windows, ("bar", 2, 2, [1])), False)

    def test_bars_that_are_not(self):
        wrong = [
            (2, 3, []), (2, 3, [1, 2]), (2, 3, [1, 3, 2]), (2, 3, [3, 2, 1]), (2, 3, [1, 1, 2]), (2, 3, [1, 2, 3, 3]),
            (2, 3, [0, 1, 2]), (2, 3, [0, 1, 2, 3]), (3, 3, [1, 2, 3]), (2, 2, [1, 2, 3]), (3, 2, [1, 2, 3]),
            (2, 3, [1, 2, 4]), (2, 3, [-3, 1, 2]), (2, 3, [-1, 1, 2]), (2, 3, [1, 2, 3, 4]), (2, 3, [-1, 1, 2, 3]),
            (2, 3, [1, 2, FAR]), (2, 3, [-FAR, 1, 2]), (1, 4, [0, 1, 2, 3]),
        ]
        for a, b, crowd in wrong:
            self.assertIs(self.judge(self.CROWDED, ("bar", a, b, crowd)), False, (a, b, crowd))

    def test_rounds_of_a_bar_are_rounds_of_the_row(self):
        windows = [(1, 1), (1, 1), (3, 2)]
        self.assertIs(self.judge(windows, ("bar", 1, 1, [0, 1])), True)
        for a, b in ((0, 1), (-FAR, 1), (1, FAR), (0, 0)):
            self.assertIs(self.judge(windows, ("bar", a, b, [0, 1])), False, (a, b))
        for a, b in ((3, 0), (0, 2), (4, 2), (3, 4), (FAR, 2), (3, -FAR), (-FAR, FAR), (-FAR, -FAR), (FAR, FAR)):
            self.assertIs(self.judge(windows, ("bar", a, b, [2])), False, (a, b))
        # Here only the bounds refuse: the crowd outnumbers even the rounds that are none of the row's.
        empty = [(3, 1), (3, 1), (3, 1)]
        self.assertIs(self.judge(empty, ("bar", 3, 1, [0, 1, 2])), True)
        self.assertIs(self.judge(empty, ("bar", 0, 1, [0, 1, 2])), False)
        self.assertIs(self.judge(empty, ("bar", 3, 4, [0, 1, 2])), False)

    def test_no_windows(self):
        self.assertIs(self.judge([], ("order", [])), True)
        for paper in (("order", [0]), ("bar", 1, 0, []), ("bar", 0, 0, []), ("bar", 1, 1, [0]), ("bar", 5, 2, [])):
            self.assertIs(self.judge([], paper), False)

    def test_every_small_paper(self):
        lists = [[], [0], [1], [0, 1], [1, 0], [0, 0], [-1], [2], [-1, 0], [0, 2], [0, 1, 2]]
        for row in all_windows(2):
            windows = list(row)
            for crowd in lists:
                self.assertIs(good_paper(windows, ("order", crowd)), fits(windows, crowd))
                for a, b in itertools.product(range(-1, 4), repeat=2):
                    self.assertIs(good_paper(windows, ("bar", a, b, crowd)), bars(windows, a, b, crowd))

    def test_twenty_windows(self):
        windows = [(1, 20)] * 20
        self.assertIs(self.judge(windows, ("order", list(range(19, -1, -1)))), True)
        self.assertIs(self.judge(windows, ("bar", 1, 20, list(range(20)))), False)
        self.assertIs(self.judge([(1, 19)] * 20, ("bar", 1, 19, list(range(20)))), True)


if __name__ == "__main__":
    unittest.main()
