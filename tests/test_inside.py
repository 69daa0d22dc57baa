"""What the search for worlds is made of: boards, stand-ins, frames and their short steps, chains."""

import unittest

from somesay.board import Board
from somesay.chains import freed, needed, paper_of
from somesay.frames import Frame
from somesay.keeping import goes_by, rows_by_saying, without_rows
from somesay.papers import shows_paper
from somesay.plain import weighed
from somesay.reducing import Reduction
from somesay.slicing import from_middle, readings_for, span
from somesay.standins import stand_ins, telling_rows
from somesay.sums import sum_of
from tests.oracle import A, B, counts_of, row_is_true, rows_near, seeded


def board_of(rows):
    """A board of the rows, None where they can't hold by fractions."""
    board = Board(len(rows[0][0]))
    for name, (numbers, least) in enumerate(rows):
        if not board.add_row(numbers, least, name):
            return None
    return board


class BoardTest(unittest.TestCase):
    def test_the_highest_is_reached_and_shown_by_its_times(self):
        rng = seeded(81)
        for _ in range(150):
            width = rng.randint(2, 5)
            rows = rows_near(rng, width, rng.randint(1, 8), 6, 9)
            board = board_of(rows)
            numbers = [rng.randint(-5, 5) for _ in range(width)]
            top, bottom, times = board.highest(numbers)
            self.assertEqual(bottom, board.bottom)
            self.assertEqual(weighed(numbers, board.cell_tops()), top)
            self.assertTrue(all(row_is_true((row[0], row[1] * bottom), board.cell_tops()) for row in rows))
            summed, least = sum_of(rows, [times.get(name, 0) for name in range(len(rows))])
            self.assertTrue(min(times.values(), default=0) >= 0 and least == -top)
            self.assertTrue(all(x <= -y * bottom for x, y in zip(summed, numbers)))

    def test_what_is_pinned_stays_so(self):
        rng = seeded(82)
        pinned = 0
        for _ in range(150):
            rows = rows_near(rng, 4, rng.randint(1, 6), 4, 9)
            board = board_of(rows)
            numbers, total = [rng.randint(-3, 3) for _ in range(4)], rng.randint(-4, 9)
            other = board.twin()
            low, top = span(board, numbers)
            can = low[0] <= total * low[1] and total * top[1] <= top[0]
            self.assertIs(other.pin(numbers, total), can)
            for _ in range(3 if can else 0):
                other.highest([rng.randint(-3, 3) for _ in range(4)])
                self.assertEqual(weighed(numbers, other.cell_tops()), total * other.bottom)
                pinned += 1
        self.assertGreater(pinned, 100)

    def test_a_twin_goes_its_own_way(self):
        board = board_of([((-1, -1), -5), ((1, 2), 3)])
        tops, bottom = board.cell_tops(), board.bottom
        other = board.twin()
        self.assertIs(other.add_row([1, 0], 4, 2), True)
        self.assertIs(other.add_row([0, 1], 2, 3), False)
        self.assertEqual((board.cell_tops(), board.bottom, len(board.lines)), (tops, bottom, 2))


class StandInsTest(unittest.TestCase):
    def test_like_and_lesser_cells(self):
        rows = [((-1, -1, -1, -1, -1), -9), ((1, 1, 0, 2, 0), 3), ((0, 0, 0, -1, 1), 0)]
        self.assertEqual(stand_ins(rows), {0: (0, 1), 3: (3,), 4: (4,)})

    def test_cells_that_help_no_row(self):
        self.assertEqual(stand_ins([((-1, -1), 0), ((0, -3), 1)]), {})

    def test_rows_that_hold_by_themselves_tell_nothing(self):
        rows = [((-1, -1), -9), ((0, 1), 0), ((0, 0), 1), ((0, 0), 0), ((-1, -1), -9), ((5, 5), 1), ((5, 5), -1), ((-1, 0), -9)]
        self.assertEqual(telling_rows(rows), [0, 2, 5, 7])

    def test_worlds_of_them_are_worlds_of_all(self):
        rng = seeded(83)
        worlds = counts_of(4, 4)
        fewer = 0
        for _ in range(200):
            rows = rows_near(rng, 4, rng.randint(1, 4), 2, 4)
            kept = stand_ins([rows[name] for name in telling_rows(rows)])
            mine = [world for world in worlds if all(row_is_true(row, world) for row in rows)]
            self.assertEqual(bool(mine), any(all(world[c] == 0 for c in range(4) if c not in kept) for world in mine))
            fewer += len(kept) < 4
        self.assertGreater(fewer, 50)


class FramesTest(unittest.TestCase):
    def assert_frame(self, frame):
        size = len(frame.steps)
        for i in range(size):
            for j in range(size):
                self.assertEqual(weighed(frame.readings[i], frame.steps[j]), 1 if i == j else 0)

    def test_ties_leave_a_frame(self):
        rng = seeded(84)
        for _ in range(100):
            size = rng.randint(2, 6)
            counts = [rng.randint(0, 9) for _ in range(size)]
            frame = Frame(size)
            for _ in range(rng.randint(1, size)):
                numbers = [rng.randint(-9, 9) for _ in range(size)]
                self.assertIsNone(frame.tie(numbers, 3 * weighed(numbers, counts), 3))
                self.assert_frame(frame)
                self.assertTrue(all(weighed(numbers, frame.steps[at]) == 0 for at in frame.free))
            for at in frame.known:
                self.assertEqual(weighed(frame.readings[at], counts), frame.known[at])

    def test_a_tie_that_no_whole_counts_have(self):
        for total in (-1, 1, 3, 17):
            self.assertIn(Frame(2).tie([4, 6], total, 1), ([2, 3], [-2, -3]))
        self.assertIn(Frame(2).tie([4, 6], 8, 3), ([2, 3], [-2, -3]))
        frame = Frame(2)
        self.assertIsNone(frame.tie([1, 1], 5, 1))
        self.assertIn(frame.tie([1, -1], 2, 1), ([1, 0], [0, 1], [-1, 0], [0, -1]))

    def test_short_steps(self):
        rng = seeded(85)
        for _ in range(30):
            size = rng.randint(2, 6)
            frame = Frame(size)
            weights = [[rng.randint(-999, 999) for _ in range(size)] for _ in range(size + 2)]
            images = [[weighed(numbers, step) for numbers in weights] for step in frame.steps]
            Reduction(frame, images).run()
            self.assert_frame(frame)
            self.assertEqual(sorted(frame.free), list(range(size)))
            told = [[weighed(numbers, frame.steps[at]) for numbers in weights] for at in frame.free]
            self.assertEqual(images, told)

    def test_long_ones_become_short(self):
        frame = Frame(2)
        images = [[1000, 1], [1001, 1]]
        Reduction(frame, images).run()
        self.assertEqual(sorted(sum(abs(x) for x in image) for image in images), [1, 1])

    def test_a_thin_strip_is_read_across(self):
        # Between these rows there is much room along, and hardly any across.
        rows = [((-1, -1), -10000), ((1001, -1000), 1), ((-1001, 1000), -400)]
        readings = readings_for(board_of(rows), rows)
        board = board_of(rows)
        widths = []
        for reading in readings:
            low, top = span(board, reading)
            widths.append(top[0] // top[1] - low[0] // low[1])
        self.assertLess(min(widths), 12)

    def test_from_the_middle_on(self):
        for low, top in ((0, 0), (0, 1), (-3, 4), (5, 11)):
            told = [from_middle(low, top, at) for at in range(top - low + 1)]
            self.assertEqual(sorted(told), list(range(low, top + 1)))
            self.assertEqual(told[0], (low + top) // 2)


class ChainsTest(unittest.TestCase):
    def test_steps_that_nothing_needs_are_left_out(self):
        steps = [("whole", 2, {0: 1}, 2), ("whole", 3, {1: 1}, 2), ("whole", 4, {2: 1}, 2)]
        self.assertEqual(needed(steps, {4: 1, 1: 3}), [steps[0], steps[2]])
        self.assertEqual(needed(steps, {0: 1}), [])

    def test_an_assumed_row_is_put_back(self):
        # 3x + 3y is 4 to 5, so x + y is at most 1; that it's 1 at least, too, is assumed, and leads nowhere.
        rows = [((-1, -1), -9)] + [((3, 3), 4), ((-3, -3), -5)]
        bound = ("whole", 3, {2: 1}, 3)
        inner, last, weight = freed([], {1: 1, 3: 3}, 4, 3)
        self.assertEqual((inner, last, weight), ([], {1: 1, 3: 3}, 0))
        self.assertIs(shows_paper(rows, paper_of(3, [bound], last)), True)
        inner, last, weight = freed([("whole", 5, {1: 1, 4: 2}, 4)], {5: 3, 4: 1}, 4, 3)
        self.assertEqual((inner, last, weight), ([("whole", 5, {1: 1, 3: 2}, 4)], {5: 3}, 4))

    def test_wholes_are_told_in_lowest_terms(self):
        paper = paper_of(2, [("whole", 2, {0: 6}, 12)], {1: 10, 2: 20})
        self.assertEqual(paper, [("whole", [1, 0], 2, 1), ("sum", [0, 1, 2])])

    def test_cases_end_on_either_side(self):
        rows = [((2, 0), 1), ((-2, 0), -1)]
        for side, shut, left in (("one", {0: 1, 2: 2}, {1: 1, 2: 2}), ("other", {1: 1, 2: 2}, {0: 1, 2: 2})):
            paper = paper_of(2, [("cases", 2, shut, (0,), 0, side)], left)
            self.assertIs(shows_paper(rows, paper), True, paper)


class KeepingTest(unittest.TestCase):
    def test_rows_by_saying(self):
        sayings = [("some", A, B), ("just", 2, A, B), ("just", 0, A, B), ("under", 1, 2, A, B)]
        self.assertEqual(rows_by_saying(sayings), [[1], [2, 3], [4, 5], [6]])
        self.assertEqual(rows_by_saying([]), [])

    def test_a_paper_without_rows_it_does_not_go_by(self):
        rows = [((-1, -1), -9), ((0, 1), 3), ((2, 0), 1), ((-2, 0), -1)]
        paper = [("cases", (0,), 0, 1, 2), ("whole", [0, 0, 1, 0, 0], 2, 3), ("sum", [0, 0, 0, 1, 2]), ("sum", [0, 0, 0, 1, 0, 2])]
        self.assertEqual([goes_by(paper, [k]) for k in range(4)], [False, False, True, True])
        told = without_rows(paper[1:2] + paper[3:], [0, 1])
        self.assertEqual(told, [("whole", [1, 0, 0], 2, 3), ("sum", [0, 1, 0, 2])])
        self.assertIs(shows_paper(rows, paper), True)
        fewer = without_rows(paper, [1])
        self.assertIs(shows_paper(rows[:1] + rows[2:], fewer), True)
        self.assertIs(shows_paper(rows, fewer), False)


if __name__ == "__main__":
    unittest.main()
