"""Sums of rows: counts in fractions by which rows hold, or a sum that shows there are none."""

from somesay.board import Board
from somesay.plain import common_factor, is_counts, lowest_terms, weighed


def sum_of(rows, times):
    """The row of all rows' numbers and leasts, each row so many times, added up."""
    width = len(rows[0][0]) if rows else 0
    numbers = [weighed([row[0][cell] for row in rows], times) for cell in range(width)]
    return (tuple(numbers), weighed([row[1] for row in rows], times))


def shows_sum(rows, times):
    """Whether it's a time for each row, by which the sum asks above 0 of numbers that give none."""
    if not is_counts(times, len(rows)):
        return False
    numbers, least = sum_of(rows, times)
    return least > 0 and all(number <= 0 for number in numbers)


def part_or_sum(rows):
    """Fractions by which all rows hold, ("part", parts); or times that show there are none, ("sum", times)."""
    board = Board(rows)
    stuck = board.settle()
    if stuck is None:
        return ("part", tuple([lowest_terms(top, board.bottom) for top in board.cell_tops()]))
    return ("sum", lowered(board.row_times(stuck)))


def lowered(times):
    """The times, some above 0, without what divides all of them."""
    factor = 0
    for time in times:
        factor = common_factor(factor, time)
    return [time // factor for time in times]
