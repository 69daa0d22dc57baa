"""Cells that stand in for others: things of some cells do in every row what those of another do, or less.

Counts of the cells that are left tell whether there is a world; and what sums, wholes and cases
show of these cells they show of all: a cell's number in a row that is put behind is never greater
than its stand-in's, if the cases name both or neither.
"""


def telling_rows(rows):
    """The numbers of the rows that don't hold by themselves, like ones told once."""
    seen = {}
    for name, (numbers, least) in enumerate(rows):
        if least > 0 or any(number < 0 for number in numbers):
            seen.setdefault((numbers, least), name)
    return list(seen.values())


def stand_ins(rows):
    """The groups of cells, rising tuples, by the cell that stands in for them; cells that help no row are in none."""
    width = len(rows[0][0]) if rows else 0
    columns = [[row[0][cell] for row in rows] for cell in range(width)]
    helping = [cell for cell in range(width) if any(number > 0 for number in columns[cell])]
    left = [cell for cell in helping if not any(is_better(columns, other, cell) for other in helping)]
    groups = {cell: [] for cell in left}
    for cell in helping:
        first = [other for other in left if is_as_good(columns, other, cell)][0]
        groups[first].append(cell)
    return {cell: tuple(groups[cell]) for cell in left}


def is_as_good(columns, one, other):
    return all(x >= y for x, y in zip(columns[one], columns[other]))


def is_better(columns, one, other):
    """Whether one is as good as the other and isn't let go for it: of like cells the first one stays."""
    return is_as_good(columns, one, other) and (columns[one] != columns[other] or one < other)
