"""The interface of the document: names, arguments, and the file in which each is defined."""

import importlib
import inspect
import unittest

FUNCTIONS = {
    "susu.plan": {
        "first_covered": ["stake", "seats", "pledge"],
        "within": ["windows", "a", "b"],
        "order_or_bar": ["windows"],
        "good_paper": ["windows", "paper"],
    },
    "susu.lots": {
        "count_orders": ["windows"],
        "order_by_number": ["windows", "number"],
        "number_of_order": ["windows", "row"],
    },
    "susu.settle": {
        "net_rows": ["debts"],
        "transfers": ["nets"],
        "worth": ["row", "up", "down"],
    },
}

CLASSES = {
    "susu.errors": [
        "SusuError", "BadName", "BadNumber", "Known", "Unknown", "Twice", "Seated", "Holding", "Short", "NoSeat",
        "Ended", "NotEnded", "Fell", "Paid", "NoBids", "NotWaiting", "Uncovered", "TooMany", "Uneven", "NoDeed",
        "NothingLeft", "NoOrder",
    ],
}


class InterfaceTest(unittest.TestCase):
    def test_functions(self):
        for module, functions in FUNCTIONS.items():
            for name, arguments in functions.items():
                found = getattr(importlib.import_module(module), name)
                self.assertTrue(inspect.isfunction(found), name)
                self.assertEqual(found.__module__, module)
                self.assertEqual(list(inspect.signature(found).parameters), arguments)

    def test_classes(self):
        for module, classes in CLASSES.items():
            for name in classes:
                found = getattr(importlib.import_module(module), name)
                self.assertTrue(inspect.isclass(found), name)
                self.assertEqual(found.__module__, module)


if __name__ == "__main__":
    unittest.main()
