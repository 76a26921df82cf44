"""Names, of members and of circles (point 18)."""

LETTERS = "abcdefghijklmnopqrstuvwxyz"
LONGEST_NAME = 12


def is_name(text):
    """Whether the text is 1 to 12 small letters."""
    return 1 <= len(text) <= LONGEST_NAME and all([sign in LETTERS for sign in text])
