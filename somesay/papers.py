"""Papers: sums, wholes and cases that show of rows that they have no world."""

from somesay.plain import is_counts, is_number
from somesay.sums import shows_sum, sum_of

# How many parts a step has, and from which one on they are numbers of steps behind it.
STEP_PARTS = {"sum": (2, 2), "whole": (4, 3), "cases": (5, 3)}


def shows_paper(rows, thing):
    """Whether it's a paper for these rows."""
    if not is_tree(thing):
        return False
    path = plain_rows(rows)
    waiting = [(0, len(path), [])]
    while waiting:
        number, size, more = waiting.pop()
        path[size:] = more
        step = thing[number]
        found = rows_behind(path, step)
        if found is None:
            return False
        waiting.extend([(named, len(path), [row]) for named, row in zip(named_by(step), found)])
    return True


def rows_at(rows, paper):
    """The list of the rows by which each step of a paper goes."""
    found = [plain_rows(rows)]
    waiting = {}
    for number, step in enumerate(paper):
        if number > 0:
            ahead, row = waiting[number]
            found.append(found[ahead] + [row])
        for named, row in zip(named_by(step), rows_behind(found[number], step)):
            waiting[named] = (number, row)
    return found


def paper_size(paper):
    """How many sums, wholes and cases there are."""
    kinds = [step[0] for step in paper]
    return (kinds.count("sum"), kinds.count("whole"), kinds.count("cases"))


def whole_row(row, divisor):
    """The row with each number and its least divided and taken up to the next whole number."""
    return (tuple([-(-number // divisor) for number in row[0]]), -(-row[1] // divisor))


def plain_rows(rows):
    """The rows as tuples."""
    return [(tuple(row[0]), row[1]) for row in rows]


def is_tree(thing):
    """Whether it's a list of steps, each one but the first named once, by one ahead of it."""
    if not isinstance(thing, (tuple, list)) or len(thing) == 0:
        return False
    seen = {}
    for number, step in enumerate(thing):
        if not has_parts(step):
            return False
        for named in named_by(step):
            if not is_number(named) or named <= number or named >= len(thing) or named in seen:
                return False
            seen[named] = True
    return len(seen) == len(thing) - 1


def has_parts(step):
    if not isinstance(step, (tuple, list)) or len(step) == 0 or not isinstance(step[0], str):
        return False
    return step[0] in STEP_PARTS and len(step) == STEP_PARTS[step[0]][0]


def named_by(step):
    """The numbers of the steps behind that go on from this one."""
    return list(step[STEP_PARTS[step[0]][1]:])


def rows_behind(rows, step):
    """For each step that it names the row which it puts behind; None where the step isn't right by its rows."""
    if step[0] == "sum":
        return [] if shows_sum(rows, step[1]) else None
    if step[0] == "whole":
        if not is_counts(step[1], len(rows)) or not is_number(step[2]) or step[2] < 1:
            return None
        return [whole_row(sum_of(rows, step[1]), step[2])]
    width = len(rows[0][0])
    if not is_cells(step[1], width) or not is_number(step[2]):
        return None
    return case_rows(step[1], step[2], width)


def is_cells(thing, width):
    """Whether it's a tuple or list of unlike cells, one at least."""
    if not isinstance(thing, (tuple, list)) or len(thing) == 0:
        return False
    return is_counts(thing, len(thing)) and max(thing) < width and len(set(thing)) == len(thing)


def case_rows(cells, count, width):
    """The rows of at most so many things of these cells, and of more."""
    numbers = [1 if cell in cells else 0 for cell in range(width)]
    return [(tuple([-number for number in numbers]), -count), (tuple(numbers), count + 1)]
