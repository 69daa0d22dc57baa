"""A board of rows: counts that make the rows hold are sought by swapping, in whole numbers only.

The board has a variable for each cell, its count, and one for each row, by how much its numbers
add up to more than its least. Some variables are still: they are 0. Each other one has a line:
a number for each still variable, and a last number alone, that add up to it, all over one bottom.
A line holds where its last number isn't below 0; all variables are to be 0 or more.
"""


class Board:
    """Variables are numbered: first the cells, then the rows as they came. Each row has a name of its asker's."""

    def __init__(self, width):
        self.width = width
        self.bottom = 1
        self.lines = []
        self.lined = []
        self.still = list(range(width))
        self.names = []

    def twin(self):
        """A board of its own that stands as this one does."""
        other = Board(self.width)
        other.bottom = self.bottom
        # Lines are put in one another's place, but never changed: both boards may have the same ones.
        other.lines = list(self.lines)
        other.lined = list(self.lined)
        other.still = list(self.still)
        other.names = list(self.names)
        return other

    def add_row(self, numbers, least, name):
        """Whether the row can hold together with those that came before; then counts are such that it does."""
        return self.settle(self.add_line(self.line_of(numbers, least), name))

    def pin(self, numbers, total):
        """Whether the counts, each times its number, can add up to just this total; then they do for ever."""
        line = self.line_of(numbers, total)
        if line[-1] > 0:
            line = [-number for number in line]
        variable = self.width + len(self.names)
        at = self.add_line(line, None)
        # A line that is made to hold stops at 0, and its variable is still from then on.
        if not self.settle(at):
            return False
        if variable not in self.still:
            places = [place for place in range(len(self.still)) if line[place] != 0]
            if not places:
                return True
            self.swap(at, places[0])
        self.drop(self.still.index(variable))
        return True

    def line_of(self, numbers, least):
        """How much the counts by these numbers add up to more than least, told by the still variables."""
        line = [numbers[variable] * self.bottom if variable < self.width else 0 for variable in self.still]
        line.append(-least * self.bottom)
        for variable, other in zip(self.lined, self.lines):
            if variable < self.width and numbers[variable] != 0:
                by = numbers[variable]
                line = [number + by * more for number, more in zip(line, other)]
        return line

    def add_line(self, line, name):
        self.lines.append(line)
        self.lined.append(self.width + len(self.names))
        self.names.append(name)
        return len(self.lines) - 1

    def settle(self, at):
        """Swap till the line holds, all others holding: whether it can be made to."""
        while self.lines[at][-1] < 0:
            chosen = self.best_swap(at, True)
            if chosen is None:
                return False
            self.swap(chosen[0], chosen[1])
        return True

    def highest(self, numbers):
        """The most that counts by these numbers can add up to, (top, bottom), and by which times of rows.

        The rows are such that there is a most.
        """
        at = self.add_line(self.line_of(numbers, 0), None)
        chosen = self.best_swap(at, False)
        while chosen is not None:
            self.swap(chosen[0], chosen[1])
            chosen = self.best_swap(at, False)
        line = self.lines.pop()
        self.lined.pop()
        self.names.pop()
        return (line[-1], self.bottom, self.times_in(line))

    def best_swap(self, at, to_hold):
        """The swap, (line, place), by which a line rises most, or just holds if to_hold; None if it can't rise."""
        lead = self.lines[at]
        best, top, bottom = None, 0, 1
        # Of swaps that raise it alike the variable numbered least goes: where nothing rises at all
        # this is Bland's rule, by which the swaps don't go round for ever.
        for variable, place in sorted([(self.still[k], k) for k in range(len(self.still)) if lead[k] > 0]):
            stop, far, by = self.first_stop(place)
            rise = far * lead[place]
            if to_hold and (stop is None or rise + lead[-1] * by >= 0):
                return (at, place)
            if best is None or rise * bottom > top * by:
                best, top, bottom = (stop, place), rise, by
        return best

    def first_stop(self, place):
        """Which line first falls to 0 where the still variable at place grows, and how far: (line, top, bottom)."""
        stop, top, bottom = None, 0, 1
        for k, line in enumerate(self.lines):
            if line[place] < 0:
                gap = -1 if stop is None else line[-1] * bottom + line[place] * top
                if gap < 0 or (gap == 0 and self.lined[k] < self.lined[stop]):
                    stop, top, bottom = k, line[-1], -line[place]
        return (stop, top, bottom)

    def swap(self, at, place):
        """Make the line's variable still, and give a line to the one that was still at that place."""
        old = self.bottom
        pivot = abs(self.lines[at][place])
        told = solved(self.lines[at], place, old)
        self.lines = [told if k == at else put_in(line, told, place, pivot, old) for k, line in enumerate(self.lines)]
        self.bottom = pivot
        self.lined[at], self.still[place] = self.still[place], self.lined[at]

    def drop(self, place):
        """Forget a still variable: it stays at 0."""
        self.lines = [line[:place] + line[place + 1:] for line in self.lines]
        self.still.pop(place)

    def forget(self, size):
        """Let go of the rows behind the first so many, but those that are at their leasts now."""
        left = [k for k, variable in enumerate(self.lined) if variable < self.width + size]
        self.lines = [self.lines[k] for k in left]
        self.lined = [self.lined[k] for k in left]

    def cell_tops(self):
        """What each cell's count is, over the bottom."""
        tops = [0] * self.width
        for variable, line in zip(self.lined, self.lines):
            if variable < self.width:
                tops[variable] = line[-1]
        return tops

    def whole_counts(self):
        """Each cell's count, None where one isn't whole."""
        tops = self.cell_tops()
        if any(top % self.bottom != 0 for top in tops):
            return None
        return [top // self.bottom for top in tops]

    def times_in(self, line):
        """By name, how many times each row goes into the sum that shows how far a line can rise."""
        return {
            self.names[variable - self.width]: -number
            for variable, number in zip(self.still, line)
            if variable >= self.width and number != 0
        }

    def stuck_times(self):
        """Of the last row, where it can't hold: by name, how many times each row goes into the sum that shows so."""
        times = self.times_in(self.lines[-1])
        times[self.names[-1]] = self.bottom
        return times


def solved(lead, place, bottom):
    """The line of the variable at place, told by the one whose line this was; its bottom is the pivot's size."""
    sign = 1 if lead[place] > 0 else -1
    line = [-sign * number for number in lead]
    line[place] = sign * bottom
    return line


def put_in(line, told, place, pivot, bottom):
    """The line with the variable at place put in as it is told; bottom is the line's, pivot the new one."""
    by = line[place]
    if by == 0:
        return line if pivot == bottom else [number * pivot // bottom for number in line]
    cleared = line[:place] + [0] + line[place + 1:]
    # Each number is a determinant of the first lines' numbers, so no division leaves a rest.
    return [(number * pivot + by * other) // bottom for number, other in zip(cleared, told)]
