"""Worlds found, or papers that show there are none."""

from somesay.board import Board
from somesay.chains import Prover, add_bound, paper_of
from somesay.papers import plain_rows
from somesay.plain import weighed
from somesay.sayings import base_rows
from somesay.slicing import Search, readings_for
from somesay.standins import stand_ins, telling_rows
from somesay.terms import cells_of

# How many forms are settled by cases before slices are looked at: each makes the board greater.
MOST_CASES = 4


def world_or_paper(rows, forms):
    """("world", world) in which all rows hold, or ("none", paper) that shows there is none."""
    return Finder(plain_rows(rows)).found(forms)


def world_of(many, most, sayings):
    """("world", world) of at most so many things in which all sayings hold, or ("none", paper) for base_rows."""
    return world_or_paper(base_rows(many, most, sayings), forms_of(sayings, many))


def forms_of(sayings, many):
    """The unlike tuples of cells that the sayings tell of, none empty, rising by size and then as tuples."""
    found = {}
    for saying in sayings:
        one, other = saying[-2], saying[-1]
        for term in (one, other, ("and", one, other), ("and", one, ("not", other))):
            cells = cells_of(term, many)
            found[(len(cells), cells)] = True
    return [cells for size, cells in sorted(found) if size > 0]


class Finder:
    """Looks for a world of rows; only cells that stand in for others are on its board."""

    def __init__(self, rows):
        self.rows = rows
        self.telling = telling_rows(rows)
        self.groups = stand_ins([rows[name] for name in self.telling])
        self.lead_cells = list(self.groups)
        self.shown = []
        self.steps = []

    def found(self, forms):
        board = Board(len(self.lead_cells))
        for name in self.telling:
            numbers, least = self.rows[name]
            told = ([numbers[cell] for cell in self.lead_cells], least)
            if not board.add_row(told[0], told[1], name):
                return self.paper(board.stuck_times())
            self.shown.append(told)
        counts = board.whole_counts()
        if counts is not None:
            return self.world(counts)
        return self.settle_forms(board, self.lead_forms(forms))

    def next_name(self):
        # Each step names one row, so they are named in order behind those that were handed in.
        return len(self.rows) + len(self.steps)

    def world(self, counts):
        width = len(self.rows[0][0]) if self.rows else 0
        told = [0] * width
        for cell, count in zip(self.lead_cells, counts):
            told[cell] = count
        return ("world", tuple(told))

    def paper(self, last):
        return ("none", paper_of(len(self.rows), self.steps, last))

    def lead_forms(self, forms):
        """The unlike forms by the cells on the board: 1 for each that is of the form, else 0."""
        told = [tuple([1 if cell in form else 0 for cell in self.lead_cells]) for form in forms]
        return [form for at, form in enumerate(told) if 1 in form and form not in told[:at]]

    def settle_forms(self, board, forms):
        """Go by cases of forms of which one case at least can't be, as long as there are some; then slice by slice."""
        going = board
        while going is not None and len(self.steps) < MOST_CASES:
            board = going
            told, going = self.settle_one(board, forms)
            if told is not None:
                return told
        return self.settle_slices(board)

    def settle_one(self, board, forms):
        """(what is told at last, None), (None, the board of the case that is left), (None, None) if no form helps."""
        for form in forms:
            top = weighed(form, board.cell_tops())
            if top % board.bottom != 0:
                told, going = self.settle_form(board, form, top // board.bottom)
                if told is not None or going is not None:
                    return (told, going)
        return (None, None)

    def settle_form(self, board, form, count):
        """The same of one form: there are at most count things of it, or more."""
        name = self.next_name()
        below, above = board.twin(), board.twin()
        fewer = ([-number for number in form], -count)
        fits_below = below.add_row(fewer[0], fewer[1], name)
        fits_above = above.add_row(form, count + 1, name)
        for fits, other in ((fits_below, below), (fits_above, above)):
            counts = other.whole_counts() if fits else None
            if counts is not None:
                return (self.world(counts), None)
        if fits_below and fits_above:
            return (None, None)
        shut, side = (above, "other") if fits_below else (below, "one")
        self.steps.append(("cases", name, shut.stuck_times(), self.cells_in(form), count, side))
        if not fits_below and not fits_above:
            return (self.paper(above.stuck_times()), None)
        self.shown.append(fewer if fits_below else (list(form), count + 1))
        return (None, below if fits_below else above)

    def cells_in(self, form):
        """All cells for which those on the board stand in that are of the form."""
        leads = [cell for cell, number in zip(self.lead_cells, form) if number == 1]
        return tuple(sorted([cell for lead in leads for cell in self.groups[lead]]))

    def settle_slices(self, board):
        readings = readings_for(board.twin(), self.shown)
        told = self.round_readings(board, readings)
        if told is not None:
            return told
        counts, tree = Search(readings).start(board.twin())
        if counts is not None:
            return self.world(counts)
        inner, last = Prover(readings, self.next_name()).refute(board, tree)
        self.steps.extend(inner)
        return self.paper(last)

    def round_readings(self, board, readings):
        """Put behind that readings are within the whole numbers that they may be; what is told if this ends it."""
        size = len(board.names)
        for reading in readings:
            for ways in (reading, [-number for number in reading]):
                top, bottom, times = board.highest(ways)
                if top % bottom != 0:
                    name = self.next_name()
                    self.steps.append(("whole", name, times, bottom))
                    if not add_bound(board, ways, top // bottom, name):
                        return self.paper(board.stuck_times())
                counts = board.whole_counts()
                if counts is not None:
                    return self.world(counts)
        board.forget(size)
        return None
