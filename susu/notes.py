"""Deeds written as lines, and pages of such lines (points 24 and 25)."""

from susu.errors import NoDeed
from susu.names import is_name

FIGURES = "0123456789"
MOST_FIGURES = 12

# What stands behind the first word: n for a name, c for a number.
FORMS = {
    "enter": "n",
    "part": "n",
    "bring": "nc",
    "take": "nc",
    "pay": "nn",
    "bid": "nnc",
    "lay": "nnc",
    "swap": "nnn",
    "close": "n",
}

FOUND = "found"
PLAIN = "plain"
BIDS = "bids"
SEAT_WORDS = 3


def deed_text(deed):
    """The line of the deed, without a line feed."""
    if deed[0] != FOUND:
        return joined(deed)
    name, circle, stake, bidding, seats = deed
    head = [name, circle, stake, BIDS if bidding else PLAIN]
    return joined(head + [word for seat in seats for word in seat])


def deed_of(text):
    """The deed that the line tells."""
    words = text.split(" ")
    if words[0] == FOUND:
        return found_of(words)
    if words[0] not in FORMS:
        raise NoDeed()
    return (words[0], *read_words(words[1:], FORMS[words[0]]))


def page_text(deeds):
    """The lines of the deeds, each with a line feed behind it."""
    return "".join([deed_text(deed) + "\n" for deed in deeds])


def page_deeds(text):
    """The deeds of the page."""
    lines = text.split("\n")
    # Behind the last line feed nothing stands.
    if lines[-1] != "":
        raise NoDeed()
    return [deed_of(line) for line in lines[:-1]]


def joined(words):
    """The words with one blank between."""
    return " ".join([str(word) for word in words])


def found_of(words):
    """The deed of a line that founds a circle."""
    if len(words) < 4 + SEAT_WORDS or words[3] not in (PLAIN, BIDS):
        raise NoDeed()
    circle, stake = read_words(words[1:3], "nc")
    seats = [read_words(words[at:at + SEAT_WORDS], "ncc") for at in range(4, len(words), SEAT_WORDS)]
    return (FOUND, circle, stake, words[3] == BIDS, tuple(seats))


def read_words(words, form):
    """The names and numbers that the words tell, as the form asks for them."""
    if len(words) != len(form):
        raise NoDeed()
    return tuple([read_name(word) if sign == "n" else read_number(word) for word, sign in zip(words, form)])


def read_name(word):
    """The name that the word is."""
    if not is_name(word):
        raise NoDeed()
    return word


def read_number(word):
    """The number that the word tells."""
    if not (1 <= len(word) <= MOST_FIGURES and all([sign in FIGURES for sign in word])):
        raise NoDeed()
    if word[0] == "0" and word != "0":
        raise NoDeed()
    return int(word)
