"""Sayings: where they hold, their opposites, and what they ask of the counts of cells."""

from somesay.plain import is_counts, is_number, weighed
from somesay.terms import cell_count, cells_of, is_term

MOST_COUNT = 41
MOST_BOTTOM = 12

# Of the sayings without numbers: what a thing adds that is of both terms, of the first alone,
# of the second alone; and the least that all things have to add up to.
WEIGHTS = {
    "all": (0, -1, 0, 0),
    "notall": (0, 1, 0, 1),
    "some": (1, 0, 0, 1),
    "none": (-1, 0, 0, 0),
    "more": (0, 1, -1, 1),
    "asmany": (0, 1, -1, 0),
}
COUNTED = ("least", "most", "just")
SHARES = ("share", "under")
OPPOSITE_KINDS = {
    "all": "notall",
    "notall": "all",
    "some": "none",
    "none": "some",
    "share": "under",
    "under": "share",
}
TURNED_KINDS = {"more": "asmany", "asmany": "more"}


def is_saying(thing, many):
    """Whether it's a saying of so many classes, its numbers within their bounds."""
    if not isinstance(thing, tuple) or len(thing) < 3:
        return False
    return is_opening(thing[:-2]) and is_term(thing[-2], many) and is_term(thing[-1], many)


def is_opening(opening):
    """Whether this may stand ahead of a saying's two terms: its kind and its numbers."""
    kind = opening[0]
    if not isinstance(kind, str):
        return False
    if len(opening) == 1:
        return kind in WEIGHTS
    if len(opening) == 2:
        return kind in COUNTED and is_number(opening[1]) and 0 <= opening[1] <= MOST_COUNT
    return len(opening) == 3 and kind in SHARES and is_share(opening[1], opening[2])


def is_share(top, bottom):
    return is_number(top) and is_number(bottom) and 1 <= bottom <= MOST_BOTTOM and 0 <= top <= bottom


def holds(saying, world):
    """Whether a saying holds in a world."""
    many = len(world).bit_length() - 1
    return all(row_holds(row, world) for row in rows_of(saying, many))


def opposites(saying):
    """The list of sayings one of which holds just where the saying doesn't."""
    kind = saying[0]
    if kind in COUNTED:
        return count_opposites(kind, saying[1], saying[2:])
    if kind in TURNED_KINDS:
        return [(TURNED_KINDS[kind], saying[2], saying[1])]
    return [(OPPOSITE_KINDS[kind],) + saying[1:]]


def count_opposites(kind, count, terms):
    found = []
    # No world has fewer than 0 things, so there is nothing to say below 0.
    if kind != "most" and count > 0:
        found.append(("most", count - 1) + terms)
    if kind != "least":
        found.append(("least", count + 1) + terms)
    return found


def rows_of(saying, many):
    """The list of rows that hold together just where the saying does."""
    first = cells_of(saying[-2], many)
    second = cells_of(saying[-1], many)
    found = []
    for weights in weights_of(saying):
        numbers = [cell_weight(weights, cell in first, cell in second) for cell in range(cell_count(many))]
        found.append((tuple(numbers), weights[3]))
    return found


def cell_weight(weights, in_first, in_second):
    both, first_alone, second_alone = weights[:3]
    if in_first and in_second:
        return both
    if in_first:
        return first_alone
    if in_second:
        return second_alone
    return 0


def weights_of(saying):
    """The weights of each of a saying's rows, laid out as in WEIGHTS."""
    kind = saying[0]
    if kind in WEIGHTS:
        return [WEIGHTS[kind]]
    if kind in SHARES:
        return [share_weights(kind, saying[1], saying[2])]
    at_least = (1, 0, 0, saying[1])
    at_most = (-1, 0, 0, -saying[1])
    if kind == "least":
        return [at_least]
    if kind == "most":
        return [at_most]
    return [at_least, at_most]


def share_weights(kind, top, bottom):
    if kind == "share":
        return (bottom - top, -top, 0, 0)
    return (top - bottom, top, 0, 1)


def row_holds(row, world):
    """Whether the numbers, each times its cell's count, add up to the row's least or more."""
    return weighed(row[0], world) >= row[1]


def base_rows(many, most, sayings):
    """The row of at most so many things, then the rows of each saying, in order."""
    found = [((-1,) * cell_count(many), -most)]
    for saying in sayings:
        found.extend(rows_of(saying, many))
    return found


def is_world(many, most, sayings, thing):
    """Whether it's a count for each cell, of at most so many things, in which each saying holds."""
    if not is_counts(thing, cell_count(many)) or sum(thing) > most:
        return False
    return all(holds(saying, thing) for saying in sayings)
