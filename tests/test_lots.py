"""susu.lots: all orders of few windows (points 2 and 7)."""

import itertools
import random
import unittest

from susu.errors import BadNumber, TooMany
from susu.lots import count_orders, number_of_order, order_by_number
from tests.checks import numbers, refused

FAR = 10 ** 30


def all_orders(windows):
    """All orders, the lesser first, by trying every row."""
    rows = itertools.permutations(range(len(windows)))
    return [
        list(row) for row in rows
        if all(windows[at][0] <= turn <= windows[at][1] for turn, at in enumerate(row, start=1))
    ]


class LotsTest(unittest.TestCase):
    def check_all(self, windows):
        """Count, orders and numbers are those of a trial of all rows."""
        orders = all_orders(windows)
        self.assertEqual(count_orders(windows), len(orders))
        for number, row in enumerate(orders):
            self.assertEqual(order_by_number(windows, number), row)
            self.assertEqual(number_of_order(windows, row), number)
        for number in (-1, len(orders)):
            refused(self, BadNumber, order_by_number, windows, number)
        return len(orders)

    def test_no_windows(self):
        self.assertEqual(numbers(self, count_orders, []), 1)
        self.assertEqual(numbers(self, order_by_number, [], 0), [])
        self.assertEqual(numbers(self, number_of_order, [], []), 0)
        for number in (-1, 1, FAR, -FAR):
            refused(self, BadNumber, order_by_number, [], number)
        for row in ([0], [-1], [0, 1]):
            refused(self, BadNumber, number_of_order, [], row)

    def test_free_windows(self):
        windows = [(1, 3)] * 3
        self.assertEqual(numbers(self, count_orders, windows), 6)
        rows = [numbers(self, order_by_number, windows, number) for number in range(6)]
        self.assertEqual(rows, [[0, 1, 2], [0, 2, 1], [1, 0, 2], [1, 2, 0], [2, 0, 1], [2, 1, 0]])
        self.assertEqual([numbers(self, number_of_order, windows, row) for row in rows], [0, 1, 2, 3, 4, 5])

    def test_bound_windows(self):
        windows = [(2, 3), (1, 3), (1, 2)]
        self.assertEqual(numbers(self, count_orders, windows), 3)
        self.assertEqual([order_by_number(windows, number) for number in range(3)], [[1, 2, 0], [2, 0, 1], [2, 1, 0]])
        self.assertEqual(numbers(self, number_of_order, windows, [2, 0, 1]), 1)

    def test_a_first_window_that_leads_nowhere(self):
        # Window 0 may have the first round, but then window 1 has none.
        windows = [(1, 3), (1, 1), (1, 3)]
        self.assertEqual(count_orders(windows), 2)
        self.assertEqual(order_by_number(windows, 0), [1, 0, 2])
        self.assertEqual(order_by_number(windows, 1), [1, 2, 0])
        self.assertEqual(number_of_order(windows, [1, 2, 0]), 1)

    def test_windows_without_an_order(self):
        for windows in ([(1, 1), (1, 1)], [(2, 1), (1, 2)], [(2, 2), (2, 2)]):
            self.assertEqual(numbers(self, count_orders, windows), 0)
            for number in (-1, 0, 1):
                refused(self, BadNumber, order_by_number, windows, number)
            for row in ([0, 1], [1, 0]):
                refused(self, BadNumber, number_of_order, windows, row)

    def test_every_row_of_few_windows(self):
        for many in range(1, 4):
            rounds = range(1, many + 1)
            for windows in itertools.product(itertools.product(rounds, rounds), repeat=many):
                self.check_all(list(windows))

    def test_rows_of_more_windows(self):
        chance = random.Random(7)
        found = 0
        for _ in range(60):
            many = chance.randint(4, 6)
            firsts = [chance.randint(1, max(1, many - 2)) for _ in range(many)]
            found += self.check_all([(first, chance.randint(first, many)) for first in firsts])
        self.assertGreater(found, 100)

    def test_eight_windows(self):
        windows = [(1, 8)] * 8
        self.assertEqual(numbers(self, count_orders, windows), 40320)
        self.assertEqual(numbers(self, order_by_number, windows, 0), [0, 1, 2, 3, 4, 5, 6, 7])
        self.assertEqual(numbers(self, order_by_number, windows, 40319), [7, 6, 5, 4, 3, 2, 1, 0])
        self.assertEqual(order_by_number(windows, 5040), [1, 0, 2, 3, 4, 5, 6, 7])
        self.assertEqual(numbers(self, number_of_order, windows, [7, 6, 5, 4, 3, 2, 1, 0]), 40319)
        for number in (-1, 40320, FAR, -FAR):
            refused(self, BadNumber, order_by_number, windows, number)
        single = [(turn, turn) for turn in range(8, 0, -1)]
        self.assertEqual(count_orders(single), 1)
        self.assertEqual(order_by_number(single, 0), [7, 6, 5, 4, 3, 2, 1, 0])

    def test_nine_windows_are_too_many(self):
        for windows in ([(1, 9)] * 9, [(1, 1)] * 9, [(1, 20)] * 20):
            refused(self, TooMany, count_orders, windows)
            for number in (0, 1, -1, FAR, -FAR):
                refused(self, TooMany, order_by_number, windows, number)
            for row in (list(range(len(windows))), [], [0, 0], [FAR]):
                refused(self, TooMany, number_of_order, windows, row)

    def test_rows_that_are_no_order(self):
        windows = [(1, 3), (1, 2), (1, 3)]
        wrong = ([], [0, 1], [0, 2, 1], [0, 1, 1], [0, 1, 3], [0, 1, -1], [-3, 1, 2], [0, 1, 2, 2], [0, 1, FAR])
        for row in wrong:
            refused(self, BadNumber, number_of_order, windows, row)
        self.assertEqual(number_of_order(windows, [0, 1, 2]), 0)


if __name__ == "__main__":
    unittest.main()
