"""Whole counts sought slice by slice: by whole counts a reading is whole, so each number that it may be is looked at.

Where none are found, a tree tells how: (number of a reading, trees by what the reading is), without trees
where there aren't even counts in fractions.
"""

from somesay.frames import Frame, unit
from somesay.plain import weighed
from somesay.reducing import Reduction

# How many readings are looked at for one that leaves few slices: more takes longer than it spares.
TRIES = 4
# The row with the most room has this weight.
FINENESS = 1024
# Less room than the part of a thing that this tells is measured as that much: the numbers would only grow.
NARROWEST = 10 ** 12
# Lists of rows that papers tell may be long; the first rows are those of the sayings.
MOST_SPANS = 40


def readings_for(board, rows):
    """Readings, counts being whole just where all of them are; or a single one that can't be whole by these rows."""
    spans = []
    for numbers in [unit(board.width, cell) for cell in range(board.width)] + [row[0] for row in rows[:MOST_SPANS]]:
        spans.append((numbers, span(board, numbers)))
    frame = Frame(board.width)
    for numbers, (low, top) in spans:
        if is_like(low, top):
            broken = frame.tie(numbers, top[0], top[1])
            if broken is not None:
                return [broken]
    weights = weights_by(spans)
    images = [[by * weighed(numbers, frame.steps[at]) for numbers, by in weights] for at in frame.free]
    Reduction(frame, images).run()
    return frame.free_readings()


def weights_by(spans):
    """By which numbers steps are measured, and how much: the more, the less room there is along them."""
    widths = [(numbers, width_of(low, top)) for numbers, (low, top) in spans if not is_like(low, top)]
    widest = max([width[0] // width[1] + 1 for numbers, width in widths], default=1)
    return [(numbers, FINENESS * widest * min(bottom, NARROWEST * top) // top) for numbers, (top, bottom) in widths]


def span(board, numbers):
    """The least and the most that counts by these numbers can add up to, as (top, bottom)."""
    top, bottom, times = board.highest(numbers)
    under, under_bottom, times = board.highest([-number for number in numbers])
    return ((-under, under_bottom), (top, bottom))


def is_like(low, top):
    return low[0] * top[1] == top[0] * low[1]


def width_of(low, top):
    return (top[0] * low[1] - low[0] * top[1], low[1] * top[1])


class Search:
    """The search for whole counts by these readings."""

    def __init__(self, readings):
        self.readings = readings

    def start(self, board):
        # The last readings are those that are likely to leave the fewest slices.
        left = [(0, number) for number in reversed(range(len(self.readings)))]
        return self.look(board, left, len(left))

    def look(self, board, left, tries):
        """(counts, None), or (None, tree); left are the readings not yet gone by, with how many slices they had."""
        counts = board.whole_counts()
        if counts is not None:
            return (counts, None)
        counts, chosen, others = self.choose(board, left, tries)
        if counts is not None:
            return (counts, None)
        low, top, number = chosen
        trees = {}
        for at in range(top - low + 1):
            total = from_middle(low, top, at)
            other = board.twin()
            if other.pin(self.readings[number], total):
                counts, tree = self.look(other, others, TRIES)
                if counts is not None:
                    return (counts, None)
                trees[total] = tree
        return (None, (number, trees))

    def choose(self, board, left, tries):
        """(counts, None, None) where whole ones are met; else (None, (low, top, number), what is left but for it)."""
        best, others, tried = None, [], 0
        for slices, number in left:
            if best is not None and (tried >= tries or best[1] <= best[0]):
                others.append((slices, number))
                continue
            low, top = span(board, self.readings[number])
            counts = board.whole_counts()
            if counts is not None:
                return (counts, None, None)
            first, last = -(-low[0] // low[1]), top[0] // top[1]
            if is_like(low, top) and first == last:
                continue
            tried += 1
            others.append((last - first + 1, number))
            if best is None or last - first < best[1] - best[0]:
                best = (first, last, number)
        return (None, best, sorted([pair for pair in others if pair[1] != best[2]]))


def from_middle(low, top, at):
    """The whole numbers from low to top, one by one from the middle on: the one at this place."""
    far = (at + 1) // 2
    return (low + top) // 2 + (far if at % 2 == 1 else -far)
