"""Words of texts: names and labels, and numbers in plain figures."""

LETTERS = "abcdefghijklmnopqrstuvwxyz"
FIGURES = "0123456789"
MOST_LETTERS = 8


def is_label(word):
    """Whether it's one to eight small letters."""
    return 1 <= len(word) <= MOST_LETTERS and all(sign in LETTERS for sign in word)


def is_plain_number(word):
    """Whether it's figures alone, with no nought ahead but 0 itself."""
    if word == "" or any(sign not in FIGURES for sign in word):
        return False
    return word == "0" or word[0] != "0"


def number_within(word, low, high):
    """The number that is written so, None where there's none from low to high."""
    # Long words aren't read at all: Python refuses to read very long ones.
    if not is_plain_number(word) or len(word) > len(str(high)) or not low <= int(word) <= high:
        return None
    return int(word)
