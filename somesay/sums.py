"""Sums of rows: counts in fractions by which rows hold, or a sum that shows there are none."""

from somesay.board import Board
from somesay.plain import is_counts, lowest_terms, lowered, weighed


def sum_of(rows, times):
    """The row of all rows' numbers and leasts, each row so many times, added up."""
    width = len(rows[0][0]) if rows else 0
    # Long papers go by many rows, of which most steps use few.
    used = [(row, time) for row, time in zip(rows, times) if time != 0]
    factors = [time for row, time in used]
    numbers = [weighed([row[0][cell] for row, time in used], factors) for cell in range(width)]
    return (tuple(numbers), weighed([row[1] for row, time in used], factors))


def shows_sum(rows, times):
    """Whether it's a time for each row, by which the sum asks above 0 of numbers that give none."""
    if not is_counts(times, len(rows)):
        return False
    numbers, least = sum_of(rows, times)
    return least > 0 and all(number <= 0 for number in numbers)


def part_or_sum(rows):
    """Fractions by which all rows hold, ("part", parts); or times that show there are none, ("sum", times)."""
    board = Board(len(rows[0][0]) if rows else 0)
    for name, row in enumerate(rows):
        if not board.add_row(row[0], row[1], name):
            times = board.stuck_times()
            return ("sum", lowered([times.get(k, 0) for k in range(len(rows))]))
    return ("part", tuple([lowest_terms(top, board.bottom) for top in board.cell_tops()]))
