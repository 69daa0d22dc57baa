"""Papers put together: of wholes by which slice after slice is cut off, with cases ahead of them.

Here rows are named by numbers, the first ones as they stand; times are dicts by names. A step is
("whole", name, times, divisor), or ("cases", name, times, cells, n, side): of its two cases the one of
this side, "one" or "other", ends in the sum by times; the paper goes on by the other one. The name is that
of the row which the step puts behind, in both cases.
"""

from somesay.plain import lowered


class Prover:
    """Shows that there are no whole counts, by readings and a tree that a search has told."""

    def __init__(self, readings, name):
        self.readings = readings
        self.name = name

    def new_name(self):
        self.name += 1
        return self.name - 1

    def refute(self, board, tree):
        """(steps, times) of a last sum: no whole counts are left on the board."""
        reading = self.readings[tree[0]]
        steps = []
        bound, limit = None, None
        while True:
            top, bottom, times = board.highest(reading)
            if bound is None or top // bottom < limit:
                bound, limit = self.new_name(), top // bottom
                steps.append(("whole", bound, times, bottom))
                if not add_bound(board, reading, limit, bound):
                    return (steps, board.stuck_times())
            assumed = self.new_name()
            inner, last = self.refute_slice(board.twin(), tree[1], reading, limit, assumed)
            inner, last, weight = freed(inner, last, assumed, bound)
            steps.extend(inner)
            if weight == 0:
                return (steps, last)
            bound, limit = self.new_name(), limit - 1
            steps.append(("whole", bound, last, weight))
            if not add_bound(board, reading, limit, bound):
                return (steps, board.stuck_times())

    def refute_slice(self, board, trees, reading, limit, assumed):
        """The same, where the reading is at least its limit, too: a row that isn't shown, but assumed."""
        if not board.add_row(reading, limit, assumed):
            return ([], board.stuck_times())
        return self.refute(board, trees[limit])


def add_bound(board, reading, limit, name):
    # The row that the whole puts behind may have lesser numbers than these, since no count is below 0:
    # what is shown by these numbers is shown by lesser ones as well.
    return board.add_row([-number for number in reading], -limit, name)


def freed(steps, last, assumed, bound):
    """The steps and the last sum without the assumed row, and how many times this row is missing from the sum.

    The assumed row tells that a reading is its limit at least, the row called bound that it's at most that:
    put to a sum, bound takes the assumed row away. A whole from which the assumed row is missing some times
    the divisor is the same row as before, but with the assumed one missing so many times. So bound is put
    to each whole till it comes to that. A last sum from which the assumed row is missing tells that the
    reading is less than its limit; as a whole, divided by how many times it's missing, that it's less by 1.
    """
    missing = {assumed: 1}
    found = []
    for kind, name, times, divisor in steps:
        weight = sum([times[other] * missing.get(other, 0) for other in times])
        lacks = -(-weight // divisor)
        own = {other: times[other] for other in times if other != assumed}
        if lacks * divisor > weight:
            own[bound] = own.get(bound, 0) + lacks * divisor - weight
        missing[name] = lacks
        found.append((kind, name, own, divisor))
    weight = sum([last[other] * missing.get(other, 0) for other in last])
    return (found, {other: last[other] for other in last if other != assumed}, weight)


def needed(steps, last):
    """The steps whose rows go into the last sum, or into those that do."""
    wanted = {name: True for name in last}
    found = []
    for step in reversed(steps):
        if step[1] in wanted:
            found.append(step)
            for name in step[2]:
                wanted[name] = True
    return found[::-1]


def paper_of(size, steps, last):
    """The paper, for so many rows, of the steps and the last sum."""
    places = {name: name for name in range(size)}
    paper = []
    for step in needed(steps, last):
        name, times = step[1], step[2]
        at = len(paper)
        if step[0] == "whole":
            listed, divisor = lowest_whole(listed_times(times, places), step[3])
            paper.append(("whole", listed, divisor, at + 1))
            places[name] = len(places)
        else:
            places[name] = len(places)
            branches = (at + 1, at + 2) if step[5] == "one" else (at + 2, at + 1)
            paper.append(("cases", step[3], step[4]) + branches)
            paper.append(("sum", lowered(listed_times(times, places))))
    paper.append(("sum", lowered(listed_times(last, places))))
    return paper


def listed_times(times, places):
    listed = [0] * len(places)
    for name in times:
        listed[places[name]] = times[name]
    return listed


def lowest_whole(times, divisor):
    """The times and the divisor without what divides all of them."""
    told = lowered(times + [divisor])
    return (told[:-1], told[-1])
