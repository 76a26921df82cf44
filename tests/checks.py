"""What several tests look at in the same way."""

from copy import deepcopy


def holds_truth(value):
    """Whether True or False stands anywhere within tuples and lists."""
    if isinstance(value, (list, tuple)):
        return any(holds_truth(part) for part in value)
    return isinstance(value, bool)


def spoil(value):
    """Change every list within an answer, as whoever got it may do."""
    if isinstance(value, (list, tuple)):
        for part in value:
            spoil(part)
    if isinstance(value, list):
        value.clear()
        value.append("spoilt")


def answer(case, ask, *handed):
    """The answer of a function, checked for what holds of every answer (point 2)."""
    kept = deepcopy(handed)
    first = ask(*handed)
    case.assertEqual(handed, kept, "what is handed in stays as it was")
    told = deepcopy(first)
    spoil(first)
    case.assertEqual(handed, kept, "a changed answer changes nothing that was handed in")
    case.assertEqual(ask(*handed), told, "the next answer is the same")
    return told


def numbers(case, ask, *handed):
    """An answer in which all numbers are told as whole numbers."""
    told = answer(case, ask, *handed)
    case.assertFalse(holds_truth(told), told)
    return told


def refused(case, error, ask, *handed):
    """What is refused changes nothing of what was handed in, and is refused again."""
    kept = deepcopy(handed)
    for _ in range(2):
        with case.assertRaises(error) as caught:
            ask(*handed)
        case.assertIs(type(caught.exception), error)
        case.assertEqual(handed, kept)
