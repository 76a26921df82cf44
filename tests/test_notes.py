"""susu.notes: deeds and pages, written and read (points 24 and 25)."""

import random
import re
import unittest

from susu.errors import NoDeed
from susu.notes import deed_of, deed_text, page_deeds, page_text
from tests.checks import answer, refused

SEATS = (("ann", 20, 1), ("bob", 10, 2), ("cid", 0, 3))
LINES = {
    "enter ann": ("enter", "ann"),
    "part abcdefghijkl": ("part", "abcdefghijkl"),
    "bring z 1000000000": ("bring", "z", 1000000000),
    "take bob 1": ("take", "bob", 1),
    "found fund 10 plain ann 20 1 bob 10 2 cid 0 3": ("found", "fund", 10, False, SEATS),
    "found fund 1000000 bids ann 1000000000 20": ("found", "fund", 1000000, True, (("ann", 1000000000, 20),)),
    "found found 7 bids plain 0 1 bids 7 2": ("found", "found", 7, True, (("plain", 0, 1), ("bids", 7, 2))),
    "pay fund ann": ("pay", "fund", "ann"),
    "bid fund ann 0": ("bid", "fund", "ann", 0),
    "bid fund ann 999999999999": ("bid", "fund", "ann", 999999999999),
    "lay fund bob 40": ("lay", "fund", "bob", 40),
    "swap fund ann bob": ("swap", "fund", "ann", "bob"),
    "close fund": ("close", "fund"),
    "enter enter": ("enter", "enter"),
    "pay pay pay": ("pay", "pay", "pay"),
}

NAME = "[a-z]{1,12}"
NUMBER = "(?:0|[1-9][0-9]{0,11})"
FORMS = [
    f"(?:enter|part|close) {NAME}", f"(?:bring|take) {NAME} {NUMBER}", f"pay {NAME} {NAME}",
    f"(?:bid|lay) {NAME} {NAME} {NUMBER}", f"swap {NAME} {NAME} {NAME}",
    f"found {NAME} {NUMBER} (?:plain|bids)(?: {NAME} {NUMBER} {NUMBER})+",
]
LINE = re.compile("|".join(f"(?:{form})" for form in FORMS))
SIGNS = [chr(sign) for sign in range(32, 127) if sign != 37] + ["\n"]


def kinds(value):
    """The value with the kind of each part, for True is no 1 here."""
    if isinstance(value, tuple):
        return (tuple, [kinds(part) for part in value])
    return (type(value), value)


class NotesTest(unittest.TestCase):
    def reads(self, text, deed):
        self.assertEqual(kinds(answer(self, deed_of, text)), kinds(deed))

    def wrong(self, text):
        refused(self, NoDeed, deed_of, text)


class DeedsTest(NotesTest):
    def test_each_deed_is_written(self):
        for text, deed in LINES.items():
            self.assertEqual(answer(self, deed_text, deed), text)

    def test_each_deed_is_read_back(self):
        for text, deed in LINES.items():
            self.reads(text, deed)

    def test_names(self):
        for name in ("a", "z", "zz", "abcdefghijkl", "mnopqrstuvwx", "yz"):
            self.reads(f"swap {name} ann {name}", ("swap", name, "ann", name))
        for name in ("", "abcdefghijklm", "Ann", "aNn", "ann1", "1", "a-b", "a_b", "ann.", "\n", "ann\n", "\nann", "a\nb"):
            self.wrong(f"enter {name}")
            self.wrong(f"pay {name} ann")
            self.wrong(f"pay ann {name}")
            self.wrong(f"found {name} 10 plain ann 20 1")
            self.wrong(f"found fund 10 plain {name} 20 1")

    def test_numbers(self):
        for number in (0, 1, 9, 10, 99, 100, 1000000000, 100000000000, 999999999999):
            self.reads(f"bring ann {number}", ("bring", "ann", number))
            self.reads(f"found f {number} bids a {number} {number}", ("found", "f", number, True, (("a", number, number),)))
        words = ("", "00", "01", "007", "-1", "-0", "+1", "1000000000000", "0000000000000", "1.0", "1e3", "1_0", "a", "1a",
                 "0x1", "1,000", "1\n", "\n1", "0\n", "True", "one")
        for word in words:
            self.wrong(f"bring ann {word}")
            self.wrong(f"bid fund ann {word}")
            self.wrong(f"found fund {word} plain ann 20 1")
            self.wrong(f"found fund 10 plain ann {word} 1")
            self.wrong(f"found fund 10 plain ann 20 {word}")

    def test_blanks(self):
        for text in LINES:
            words = text.split(" ")
            for at in range(1, len(words)):
                self.wrong(" ".join(words[:at]) + "  " + " ".join(words[at:]))
                self.wrong(" ".join(words[:at]) + "\n" + " ".join(words[at:]))
                self.wrong(" ".join(words[:at - 1] + [words[at - 1] + words[at]] + words[at + 1:]))
            for spoilt in (" " + text, text + " ", text + "\n", "\n" + text, text + " \n", "  " + text):
                self.wrong(spoilt)

    def test_too_few_and_too_many_words(self):
        for text in LINES:
            words = text.split(" ")
            for many in range(len(words)):
                if words[0] != "found" or many < 7 or many % 3 != 1:
                    self.wrong(" ".join(words[:many]))
            for more in ("ann", "1", "ann 1", "0 0", "ann ann ann", "1 1 1", "ann 1 ann"):
                self.wrong(text + " " + more)

    def test_no_words_of_deeds(self):
        for text in ("", " ", "\n", "ann", "entr ann", "enters ann", "Enter ann", "ENTER ann", "back", "again", "leave ann"):
            self.wrong(text)
        for text in ("twin fund", "deed ann", "coins", "founds fund 10 plain ann 20 1", "n ann", "nc ann 1", "plain ann"):
            self.wrong(text)

    def test_plain_or_bids(self):
        for word in ("Plain", "bid", "plains", "true", "True", "False", "0", "1", ""):
            self.wrong(f"found fund 10 {word} ann 20 1")
        self.wrong("found fund 10 ann 20 1")
        self.wrong("found fund plain 10 ann 20 1")

    def test_seats_of_found(self):
        self.wrong("found fund 10 plain")
        self.wrong("found fund 10 bids")
        self.wrong("found fund 10 plain ann")
        self.wrong("found fund 10 plain ann 20")
        self.wrong("found fund 10 plain ann 20 1 bob")
        self.wrong("found fund 10 plain ann 20 1 bob 10")
        self.wrong("found fund 10 plain ann 20 1 bob 10 2 cid")
        self.wrong("found fund 10 plain 20 ann 1")
        self.reads("found fund 10 plain ann 20 1", ("found", "fund", 10, False, (("ann", 20, 1),)))
        many = tuple((letter, 5, 30) for letter in "abcdefghijklmnopqrstuvwxyz")
        line = "found fund 3 bids" + "".join(f" {name} 5 30" for name, pledge, wish in many)
        self.reads(line, ("found", "fund", 3, True, many))
        self.assertEqual(deed_text(("found", "fund", 3, True, many)), line)

    def test_the_form_alone_is_looked_at(self):
        self.reads("bring nobody 0", ("bring", "nobody", 0))
        self.reads("swap fund ann ann", ("swap", "fund", "ann", "ann"))
        self.reads("found fund 0 plain ann 0 0 ann 0 0", ("found", "fund", 0, False, (("ann", 0, 0), ("ann", 0, 0))))
        self.reads("lay fund ann 999999999999", ("lay", "fund", "ann", 999999999999))

    def test_texts_one_sign_apart(self):
        for text in LINES:
            for at in range(len(text) + 1):
                near = [text[:at] + sign + text[at:] for sign in SIGNS]
                near += [text[:at] + sign + text[at + 1:] for sign in SIGNS] + [text[:at] + text[at + 1:]]
                for other in near:
                    self.agrees(other)

    def agrees(self, text):
        """The text is read where it has the form, and then it is written back as it was."""
        if LINE.fullmatch(text):
            self.assertEqual(deed_text(deed_of(text)), text)
        else:
            with self.assertRaises(NoDeed):
                deed_of(text)

    def test_words_by_chance(self):
        chance = random.Random(56)
        words = ["enter", "part", "bring", "take", "found", "pay", "bid", "lay", "swap", "close", "plain", "bids"]
        words += ["ann", "bob", "f", "0", "1", "20", "007", "", "x1", "abcdefghijklm", "999999999999", "1000000000000"]
        read = 0
        for _ in range(20000):
            text = " ".join([chance.choice(words[:10])] + [chance.choice(words) for _ in range(chance.randint(0, 6))])
            self.agrees(text)
            read += LINE.fullmatch(text) is not None
        self.assertGreater(read, 500)

    def test_deeds_by_chance(self):
        chance = random.Random(57)
        name = lambda: "".join(chance.choice("abcxyz") for _ in range(chance.randint(1, 12)))
        number = lambda: chance.choice([0, chance.randint(0, 9), chance.randint(0, 999999999999)])
        for _ in range(2000):
            seats = tuple((name(), number(), number()) for _ in range(chance.randint(1, 20)))
            deeds = [
                ("enter", name()), ("part", name()), ("bring", name(), number()), ("take", name(), number()),
                ("found", name(), number(), chance.random() < 0.5, seats), ("pay", name(), name()),
                ("bid", name(), name(), number()), ("lay", name(), name(), number()),
                ("swap", name(), name(), name()), ("close", name()),
            ]
            deed = chance.choice(deeds)
            text = deed_text(deed)
            self.assertIsNotNone(LINE.fullmatch(text), text)
            self.assertEqual(kinds(deed_of(text)), kinds(deed))


class PagesTest(NotesTest):
    def test_a_page_of_each_deed(self):
        deeds = list(LINES.values())
        text = answer(self, page_text, deeds)
        self.assertEqual(text, "".join(line + "\n" for line in LINES))
        told = answer(self, page_deeds, text)
        self.assertEqual([kinds(deed) for deed in told], [kinds(deed) for deed in deeds])

    def test_a_page_without_deeds(self):
        self.assertEqual(answer(self, page_text, []), "")
        self.assertEqual(answer(self, page_deeds, ""), [])

    def test_one_line(self):
        self.assertEqual(page_text([("enter", "ann")]), "enter ann\n")
        self.assertEqual(page_deeds("enter ann\n"), [("enter", "ann")])

    def test_the_same_deed_more_than_once(self):
        self.assertEqual(page_deeds("close f\nclose f\n"), [("close", "f"), ("close", "f")])
        self.assertEqual(page_text([("close", "f")] * 3), "close f\nclose f\nclose f\n")

    def test_texts_that_are_no_page(self):
        good = "enter ann\nclose fund\n"
        self.assertEqual(page_deeds(good), [("enter", "ann"), ("close", "fund")])
        for text in (
            "enter ann\nclose fund", "enter ann", "\n", "\n\n", "\nenter ann\n", "enter ann\n\n", "enter ann\n\nclose fund\n",
            "enter ann \nclose fund\n", " enter ann\n", "enter ann\nclose\n", "enter\nann\n", "enter ann\nClose fund\n",
            "enter ann\n ", "enter ann\n \n", " ", "enter ann close fund\n",
            "enter ann\nclose fund\nwhat\n", "what\nenter ann\n", "enter ann\nclose fund\n1", "enter annclose fund\n",
        ):
            refused(self, NoDeed, page_deeds, text)

    def test_a_line_is_no_page_and_a_page_no_line(self):
        for text in LINES:
            refused(self, NoDeed, page_deeds, text)
            refused(self, NoDeed, deed_of, text + "\n")
            self.assertEqual(page_deeds(text + "\n"), [LINES[text]])


if __name__ == "__main__":
    unittest.main()
