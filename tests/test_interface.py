"""The interface of the document: names, arguments, and the file in which each is defined."""

import importlib
import inspect
import unittest

FUNCTIONS = {
    "susu.plan": {
        "first_covered": ["stake", "seats", "pledge"],
        "within": ["windows", "a", "b"],
        "order_or_bar": ["windows"],
        "good_paper": ["windows", "paper"],
    },
    "susu.lots": {
        "count_orders": ["windows"],
        "order_by_number": ["windows", "number"],
        "number_of_order": ["windows", "row"],
    },
    "susu.settle": {
        "net_rows": ["debts"],
        "transfers": ["nets"],
        "worth": ["row", "up", "down"],
    },
    "susu.audit": {
        "first_wrong": ["stake", "pledges", "queue", "bidding", "reports"],
    },
    "susu.notes": {
        "deed_text": ["deed"],
        "deed_of": ["text"],
        "page_text": ["deeds"],
        "page_deeds": ["text"],
    },
    "susu.house": {
        "opened": ["deeds"],
    },
}

METHODS = {
    ("susu.circle", "Circle"): {
        "__init__": ["stake", "pledges", "wishes", "bidding"],
        "turn": [], "ended": [], "queue": [], "rests": [], "box": [], "seat": ["at"], "owed": ["at"],
        "expected": ["at"], "flow": ["at"], "close": ["paid", "bids"], "lay": ["at", "coins"], "swap": ["at", "other"],
        "refunds": [], "twin": [],
    },
    ("susu.house", "House"): {
        "__init__": [],
        "enter": ["name"], "part": ["name"], "bring": ["name", "coins"], "take": ["name", "coins"],
        "found": ["circle", "stake", "bidding", "seats"], "pay": ["circle", "name"],
        "bid": ["circle", "name", "coins"], "lay": ["circle", "name", "coins"], "swap": ["circle", "name", "other"],
        "close": ["circle"], "deed": ["row"], "back": [], "again": [], "deeds": [], "members": [], "purse": ["name"],
        "circles": [], "names": ["circle"], "turn": ["circle"], "rests": ["circle"], "queue": ["circle"],
        "paid": ["circle"], "bids": ["circle"], "reports": ["circle"], "held": ["circle"],
        "seat": ["circle", "name"], "coins": [], "twin": [],
    },
}

CLASSES = {
    "susu.errors": [
        "SusuError", "BadName", "BadNumber", "Known", "Unknown", "Twice", "Seated", "Holding", "Short", "NoSeat",
        "Ended", "NotEnded", "Fell", "Paid", "NoBids", "NotWaiting", "Uncovered", "TooMany", "Uneven", "NoDeed",
        "NothingLeft", "NoOrder",
    ],
    "susu.circle": ["Circle"],
    "susu.house": ["House"],
}


class InterfaceTest(unittest.TestCase):
    def test_functions(self):
        for module, functions in FUNCTIONS.items():
            for name, arguments in functions.items():
                found = getattr(importlib.import_module(module), name)
                self.assertTrue(inspect.isfunction(found), name)
                self.assertEqual(found.__module__, module)
                self.assertEqual(list(inspect.signature(found).parameters), arguments)

    def test_classes(self):
        for module, classes in CLASSES.items():
            for name in classes:
                found = getattr(importlib.import_module(module), name)
                self.assertTrue(inspect.isclass(found), name)
                self.assertEqual(found.__module__, module)

    def test_methods_stand_in_their_class(self):
        for (module, name), methods in METHODS.items():
            found = getattr(importlib.import_module(module), name)
            for method, arguments in methods.items():
                if method == "__init__" and not arguments:
                    continue
                self.assertIn(method, vars(found), name)
                given = inspect.signature(vars(found)[method]).parameters
                self.assertEqual(list(given)[1:], arguments, f"{name}.{method}")
                defaults = {"bidding": False} if name == "Circle" and method == "__init__" else {}
                told = {at: given[at].default for at in given if given[at].default is not inspect.Parameter.empty}
                self.assertEqual(told, defaults, f"{name}.{method}")


if __name__ == "__main__":
    unittest.main()
