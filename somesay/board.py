"""A board of rows: counts that make the rows hold are sought by swapping, in whole numbers only.

The board has a variable for each cell, its count, and one for each row, by how much its numbers
add up to more than its least. Some variables are still: they are 0. Each other one has a line:
a number for each still variable, and a last number alone, that add up to it, all over one bottom.
A line holds where its last number isn't below 0; all variables are to be 0 or more.
"""


class Board:
    """Variables are numbered: first the cells, then the rows."""

    def __init__(self, rows):
        self.width = len(rows[0][0]) if rows else 0
        self.bottom = 1
        self.lines = [list(numbers) + [-least] for numbers, least in rows]
        self.lined = [self.width + k for k in range(len(rows))]
        self.still = list(range(self.width))

    def settle(self):
        """Swap till each line holds: None; or the number of a line that can't be made to."""
        # A line that holds once holds ever after: no swap lets one fall below 0.
        for at in range(len(self.lines)):
            while self.lines[at][-1] < 0:
                chosen = self.best_swap(at)
                if chosen is None:
                    return at
                self.swap(chosen[0], chosen[1])
        return None

    def best_swap(self, at):
        """The swap, a line and a place, by which a line that doesn't hold rises most; None if it can't."""
        lead = self.lines[at]
        best, top, bottom = None, 0, 1
        # Of swaps that raise it alike the variable numbered least goes: where nothing rises at all
        # this is Bland's rule, by which the swaps don't go round for ever.
        for variable, place in sorted([(self.still[k], k) for k in range(self.width) if lead[k] > 0]):
            stop, far, by = self.first_stop(place, at)
            if stop == at:
                return (stop, place)
            rise = far * lead[place]
            if best is None or rise * bottom > top * by:
                best, top, bottom = (stop, place), rise, by
        return best

    def first_stop(self, place, at):
        """Which line stops the still variable at place from growing on, and how far it may grow: (line, top, bottom).

        Line at stops it where it holds, another line that holds where it would fall below 0.
        """
        lead = self.lines[at]
        stop, top, bottom = at, -lead[-1], lead[place]
        for k, line in enumerate(self.lines):
            if line[place] < 0 and line[-1] >= 0:
                gap = line[-1] * bottom + line[place] * top
                if gap < 0 or (gap == 0 and stop != at and self.lined[k] < self.lined[stop]):
                    stop, top, bottom = k, line[-1], -line[place]
        return (stop, top, bottom)

    def swap(self, at, place):
        """Make the line's variable still, and give a line to the one that was still at that place."""
        old = self.bottom
        pivot = abs(self.lines[at][place])
        told = solved(self.lines[at], place, old)
        self.lines = [told if k == at else put_in(line, told, place, pivot, old) for k, line in enumerate(self.lines)]
        self.bottom = pivot
        self.lined[at], self.still[place] = self.still[place], self.lined[at]

    def cell_tops(self):
        """What each cell's count is, over the bottom."""
        tops = [0] * self.width
        for variable, line in zip(self.lined, self.lines):
            if variable < self.width:
                tops[variable] = line[-1]
        return tops

    def row_times(self, at):
        """Of a line that can't hold: how many times each row goes into the sum that shows it."""
        times = [0] * len(self.lines)
        times[self.lined[at] - self.width] = self.bottom
        for variable, number in zip(self.still, self.lines[at]):
            if variable >= self.width:
                times[variable - self.width] = -number
        return times


def solved(lead, place, bottom):
    """The line of the variable at place, told by the one whose line this was; its bottom is the pivot's size."""
    sign = 1 if lead[place] > 0 else -1
    line = [-sign * number for number in lead]
    line[place] = sign * bottom
    return line


def put_in(line, told, place, pivot, bottom):
    """The line with the variable at place put in as it is told; bottom is the line's, pivot the new one."""
    by = line[place]
    if by == 0 and pivot == bottom:
        return line
    cleared = line[:place] + [0] + line[place + 1:]
    # Each number is a determinant of the first lines' numbers, so no division leaves a rest.
    return [(number * pivot + by * other) // bottom for number, other in zip(cleared, told)]
