"""susu.settle: nets, transfers and worth (points 2, 8 and 9)."""

import random
import unittest

from susu.errors import BadNumber, Uneven
from susu.settle import net_rows, transfers, worth
from tests.checks import numbers, refused

HUGE = 10 ** 18


def settled(nets):
    """The transfers by the words of point 8: one step after the other, from the head of the row."""
    left = [list(row) for row in nets]
    told = []
    while any(net != 0 for name, net in left):
        payer = next(row for row in left if row[1] < 0)
        getter = next(row for row in left if row[1] > 0)
        coins = min(-payer[1], getter[1])
        told.append((payer[0], getter[0], coins))
        payer[1] += coins
        getter[1] -= coins
    return told


class NetRowsTest(unittest.TestCase):
    def test_no_debts(self):
        self.assertEqual(numbers(self, net_rows, []), [])

    def test_what_debts_bring_and_take(self):
        debts = [("cleo", "abe", 5), ("abe", "bea", 7), ("cleo", "bea", 1)]
        self.assertEqual(numbers(self, net_rows, debts), [("abe", -2), ("bea", 8), ("cleo", -6)])

    def test_debts_between_the_same_names_add_up(self):
        debts = [("a", "b", 3), ("a", "b", 4), ("b", "a", 2)]
        self.assertEqual(numbers(self, net_rows, debts), [("a", -5), ("b", 5)])

    def test_a_debt_to_oneself_names_but_changes_nothing(self):
        self.assertEqual(numbers(self, net_rows, [("a", "a", 9)]), [("a", 0)])
        self.assertEqual(numbers(self, net_rows, [("a", "b", 3), ("b", "b", 9)]), [("a", -3), ("b", 3)])

    def test_debts_of_nought_name(self):
        self.assertEqual(numbers(self, net_rows, [("b", "a", 0), ("a", "b", 0)]), [("a", 0), ("b", 0)])

    def test_a_net_that_comes_to_nought_stays(self):
        debts = [("a", "b", 4), ("b", "c", 4)]
        self.assertEqual(numbers(self, net_rows, debts), [("a", -4), ("b", 0), ("c", 4)])

    def test_the_order_of_the_alphabet(self):
        debts = [("zoe", "b", 1), ("ab", "abcdefghijkl", 1), ("a", "aa", 1)]
        rows = numbers(self, net_rows, debts)
        self.assertEqual([name for name, net in rows], ["a", "aa", "ab", "abcdefghijkl", "b", "zoe"])

    def test_coins_of_any_size(self):
        debts = [("a", "b", HUGE), ("b", "c", HUGE + 1), ("a", "c", 10 ** 40)]
        self.assertEqual(numbers(self, net_rows, debts), [("a", -HUGE - 10 ** 40), ("b", -1), ("c", HUGE + 1 + 10 ** 40)])

    def test_rows_are_tuples(self):
        for row in net_rows([("a", "b", 1)]):
            self.assertIsInstance(row, tuple)


class TransfersTest(unittest.TestCase):
    def test_nothing_to_settle(self):
        self.assertEqual(numbers(self, transfers, []), [])
        self.assertEqual(numbers(self, transfers, [("a", 0)]), [])
        self.assertEqual(numbers(self, transfers, [("b", 0), ("a", 0)]), [])

    def test_one_pays_another(self):
        self.assertEqual(numbers(self, transfers, [("a", 5), ("b", -5)]), [("b", "a", 5)])
        self.assertEqual(numbers(self, transfers, [("a", -5), ("b", 5)]), [("a", "b", 5)])

    def test_the_first_in_the_row_go_first(self):
        # By the row, neither by the alphabet nor by the greatest net.
        nets = [("d", -2), ("c", 1), ("b", 0), ("z", 9), ("a", -8)]
        self.assertEqual(numbers(self, transfers, nets), [("d", "c", 1), ("d", "z", 1), ("a", "z", 8)])

    def test_one_pays_many_and_many_pay_one(self):
        self.assertEqual(numbers(self, transfers, [("a", 1), ("b", 2), ("c", -3)]), [("c", "a", 1), ("c", "b", 2)])
        self.assertEqual(numbers(self, transfers, [("a", -1), ("b", -2), ("c", 3)]), [("a", "c", 1), ("b", "c", 2)])

    def test_coins_of_any_size(self):
        nets = [("a", HUGE), ("b", -HUGE - 10 ** 40), ("c", 10 ** 40)]
        self.assertEqual(numbers(self, transfers, nets), [("b", "a", HUGE), ("b", "c", 10 ** 40)])

    def test_uneven_nets_are_refused(self):
        rows = ([("a", 1)], [("a", -1)], [("a", 5), ("b", -4)], [("a", 0), ("b", 1)], [("a", HUGE + 1), ("b", -HUGE)])
        for nets in rows:
            refused(self, Uneven, transfers, nets)

    def test_every_transfer_as_told(self):
        chance = random.Random(8)
        for _ in range(300):
            nets = [(name, chance.randint(-6, 6)) for name in chance.sample("abcdefghijkl", chance.randint(1, 11))]
            nets.insert(chance.randint(0, len(nets)), ("z", -sum(net for name, net in nets)))
            self.assertEqual(numbers(self, transfers, nets), settled(nets))

    def test_transfers_settle_debts(self):
        chance = random.Random(9)
        names = ["ann", "bob", "cat", "dan", "eve"]
        for _ in range(100):
            debts = [(chance.choice(names), chance.choice(names), chance.randint(0, HUGE)) for _ in range(12)]
            nets = net_rows(debts)
            paid = [(getter, payer, coins) for payer, getter, coins in transfers(nets)]
            self.assertEqual([net for name, net in net_rows(debts + paid)], [0] * len(nets))


class WorthTest(unittest.TestCase):
    def test_no_coins_are_worth_nought(self):
        self.assertEqual(numbers(self, worth, [], 1, 1), 0)
        self.assertEqual(numbers(self, worth, [], 1000, 1000), 0)

    def test_the_words_of_the_point(self):
        a, b, c, up, down = 7, -11, 13, 3, 5
        told = numbers(self, worth, [a, b, c], up, down)
        self.assertEqual(told, a * up * up + b * up * down + c * down * down)

    def test_one_round(self):
        self.assertEqual(numbers(self, worth, [9], 1000, 1000), 9)
        self.assertEqual(numbers(self, worth, [-9], 2, 3), -9)

    def test_up_for_the_rounds_behind_and_down_for_those_ahead(self):
        self.assertEqual(numbers(self, worth, [1, 0, 0, 0], 10, 1), 1000)
        self.assertEqual(numbers(self, worth, [0, 0, 0, 1], 10, 1), 1)
        self.assertEqual(numbers(self, worth, [0, 0, 0, 1], 1, 10), 1000)
        self.assertEqual(numbers(self, worth, [1, 2, 3, 4], 1, 1), 10)

    def test_forty_rounds(self):
        row = list(range(-20, 20))
        told = sum(coins * 1000 ** (39 - at) * 999 ** at for at, coins in enumerate(row))
        self.assertEqual(numbers(self, worth, row, 1000, 999), told)
        self.assertEqual(worth([HUGE] * 40, 1000, 1000), 40 * HUGE * 1000 ** 39)

    def test_more_than_forty_rounds_raise_no_error(self):
        self.assertEqual(worth([1] * 50, 1, 1), 50)

    def test_bounds_of_up_and_down(self):
        for row in ([], [1, 2, 3]):
            for good in ((1, 1), (1, 1000), (1000, 1), (1000, 1000)):
                numbers(self, worth, row, *good)
            for up, down in ((0, 1), (1, 0), (1001, 1), (1, 1001), (-1, 1), (1, -1), (0, 0), (HUGE, 1), (1, -HUGE)):
                refused(self, BadNumber, worth, row, up, down)


if __name__ == "__main__":
    unittest.main()
