"""Words of texts: names and labels, and numbers in plain figures."""

LETTERS = "abcdefghijklmnopqrstuvwxyz"
FIGURES = "0123456789"
MOST_LETTERS = 8
# The words of sayings; no class has one of them as its name.
RESERVED = (
    "all", "some", "no", "not", "at", "least", "most", "exactly", "more", "as", "many", "than", "of", "are",
    "and", "or", "things", "share",
)
# Python reads and writes numbers of some thousand figures only, so long ones go piece by piece.
PIECE = 64


def is_label(word):
    """Whether it's one to eight small letters."""
    return 1 <= len(word) <= MOST_LETTERS and all(sign in LETTERS for sign in word)


def is_name(word):
    """Whether a class may have it as its name."""
    return is_label(word) and word not in RESERVED


def is_plain_number(word):
    """Whether it's figures alone, with no nought ahead but 0 itself."""
    if word == "" or any(sign not in FIGURES for sign in word):
        return False
    return word == "0" or word[0] != "0"


def number_within(word, low, high):
    """The number that is written so, None where there's none from low to high."""
    if not is_plain_number(word) or len(word) > len(str(high)) or not low <= int(word) <= high:
        return None
    return int(word)


def number_in(word):
    """The number that is written so, with - ahead of one below 0; None where there's none."""
    figures = word.removeprefix("-")
    if not is_plain_number(figures) or word == "-0":
        return None
    number = plain_number(figures)
    return number if figures == word else -number


def plain_number(figures):
    head = len(figures) % PIECE
    number = int(figures[:head]) if head > 0 else 0
    for start in range(head, len(figures), PIECE):
        number = number * 10 ** 64 + int(figures[start:start + PIECE])
    return number


def number_text(number):
    """The figures of a number, with - ahead of one below 0."""
    left = abs(number)
    pieces = []
    while left >= 10 ** 64:
        left, piece = divmod(left, 10 ** 64)
        pieces.append(str(piece).zfill(PIECE))
    pieces.append(str(left))
    pieces.append("-" if number < 0 else "")
    return "".join(pieces[::-1])
