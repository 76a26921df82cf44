"""susu.errors: every class of the interface."""

import unittest

from susu import errors

PLAIN = [
    "BadName", "BadNumber", "Known", "Unknown", "Twice", "Seated", "Holding", "Short", "NoSeat", "Ended",
    "NotEnded", "Fell", "Paid", "NoBids", "NotWaiting", "Uncovered", "TooMany", "Uneven", "NoDeed", "NothingLeft",
]


class ErrorsTest(unittest.TestCase):
    def test_any_refusal_is_a_value_error(self):
        self.assertEqual(errors.SusuError.__bases__, (ValueError,))

    def test_each_stands_straight_under_susu_error(self):
        for name in PLAIN + ["NoOrder"]:
            self.assertEqual(getattr(errors, name).__bases__, (errors.SusuError,), name)

    def test_each_is_made_with_nothing_handed_in(self):
        for name in PLAIN:
            kind = getattr(errors, name)
            with self.assertRaises(kind):
                raise kind()

    def test_no_order_bears_its_fields(self):
        with self.assertRaises(errors.NoOrder) as caught:
            raise errors.NoOrder(2, 3, [0, 4, 5])
        self.assertEqual((caught.exception.early, caught.exception.late), (2, 3))
        self.assertEqual(caught.exception.crowd, [0, 4, 5])

    def test_no_order_takes_its_fields_by_name(self):
        error = errors.NoOrder(early=5, late=2, crowd=[1])
        self.assertEqual((error.early, error.late, error.crowd), (5, 2, [1]))

    def test_no_order_has_a_crowd_of_its_own(self):
        crowd = [0, 1]
        error = errors.NoOrder(1, 1, crowd)
        crowd.append(2)
        self.assertEqual(error.crowd, [0, 1])
        error.crowd.clear()
        self.assertEqual(crowd, [0, 1, 2])

    def test_no_order_numbers_of_any_size(self):
        error = errors.NoOrder(10 ** 5000, -10 ** 5000, [])
        self.assertEqual((error.early, error.late, error.crowd), (10 ** 5000, -10 ** 5000, []))
        str(error)


if __name__ == "__main__":
    unittest.main()
