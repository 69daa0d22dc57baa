"""Which sayings a paper for base_rows goes by, and the paper without the others."""

from somesay.sayings import weights_of


def rows_by_saying(sayings):
    """For each saying the numbers of its rows among base_rows."""
    found = []
    # Ahead of them stands the row of at most so many things.
    size = 1
    for saying in sayings:
        more = len(weights_of(saying))
        found.append(list(range(size, size + more)))
        size += more
    return found


def goes_by(paper, rows):
    """Whether one of these rows, by their numbers, has a time above 0 in some step."""
    for step in paper:
        if step[0] != "cases" and any(step[1][row] > 0 for row in rows):
            return True
    return False


def without_rows(paper, rows):
    """The paper without the times of these rows: one for the other rows, if it goes by none of these.

    Steps are tuples, times lists and cells tuples, whichever they were.
    """
    found = []
    for step in paper:
        if step[0] == "cases":
            kept = tuple(step[1])
        else:
            kept = [time for row, time in enumerate(step[1]) if row not in rows]
        found.append((step[0], kept, *step[2:]))
    return found
