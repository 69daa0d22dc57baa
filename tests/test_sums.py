"""[7]: sums of rows."""

import itertools
import time
import unittest

from somesay.sayings import base_rows
from somesay.sums import part_or_sum, shows_sum, sum_of
from tests.oracle import A, ANY, B, C, ODD_THINGS, is_part, is_sum, is_true, seeded, some_saying, worlds_of

MOST = 9999999
ROWS = [((1, -2, 0), 3), ((-1, 0, 0), -1), ((0, 5, -7), 0)]


def row_from(rng, width, low, high, least):
    return (tuple(rng.randint(low, high) for _ in range(width)), least)


def tight_rows(rng, width, many, size):
    """Rows that all hold by the same counts, with nothing left over."""
    counts = [rng.randint(0, 5) for _ in range(width)]
    rows = [row_from(rng, width, -size, size, 0) for _ in range(many)]
    return [(numbers, sum(x * y for x, y in zip(numbers, counts))) for numbers, _ in rows]


def closed_by(rows):
    """The rows, and one that asks for 1 more than their sum leaves."""
    numbers = tuple(-sum(row[0][k] for row in rows) for k in range(len(rows[0][0])))
    return rows + [(numbers, 1 - sum(row[1] for row in rows))]


def both_ways(rows):
    """The rows as equal to their leasts."""
    return [way for numbers, least in rows for way in ((numbers, least), (tuple(-x for x in numbers), -least))]


def cube_rows(width, more):
    """Klee's and Minty's cube: by some ways of going on every corner of it is passed."""
    rows = [(tuple(-2 if j < k else -1 if j == k else 0 for j in range(width)), 1 - 2 ** (k + 1)) for k in range(width)]
    return rows + [((1,) * width, 2 ** width - 1 + more)]


class SumOfTest(unittest.TestCase):
    def test_ordinary(self):
        self.assertEqual(sum_of(ROWS, [1, 1, 1]), ((0, 3, -7), 2))
        self.assertEqual(sum_of(ROWS, [2, 0, 3]), ((2, 11, -21), 6))
        self.assertEqual(sum_of(ROWS[:1], [4]), ((4, -8, 0), 12))

    def test_times_of_0_and_below(self):
        self.assertEqual(sum_of(ROWS, [0, 0, 0]), ((0, 0, 0), 0))
        self.assertEqual(sum_of(ROWS, [-1, 2, 0]), ((-3, 2, 0), -5))
        self.assertEqual(sum_of(ROWS, [0, 0, -3]), ((0, -15, 21), 0))

    def test_of_large_numbers(self):
        big = 10 ** 50
        self.assertEqual(sum_of(ROWS, [big, -big, 1]), ((2 * big, 5 - 2 * big, -7), 4 * big))

    def test_lists_for_tuples_and_tuples_for_lists(self):
        told = sum_of(tuple([list(numbers), least] for numbers, least in ROWS), (2, 0, 3))
        self.assertEqual(told, ((2, 11, -21), 6))
        self.assertEqual([type(told), type(told[0])], [tuple, tuple])

    def test_rows_of_sayings(self):
        rows = base_rows(2, 3, [("just", 2, A, B), ("more", A, B)])
        self.assertEqual(sum_of(rows, [1, 2, 3, 4]), ((-1, 3, -5, -2), -3 + 4 - 6 + 4))


class ShowsSumTest(unittest.TestCase):
    clash = [((1, 1), 3), ((-1, -1), -2)]

    def test_ordinary(self):
        self.assertIs(shows_sum(self.clash, [1, 1]), True)
        self.assertIs(shows_sum(self.clash, [5, 7]), True)
        self.assertIs(shows_sum(self.clash, [10 ** 40, 10 ** 40]), True)
        self.assertIs(shows_sum(self.clash, (1, 1)), True)
        self.assertIs(shows_sum([[[1, 1], 3], [[-1, -1], -2]], [1, 1]), True)

    def test_no_number_is_above_0(self):
        self.assertIs(shows_sum(self.clash, [2, 1]), False)
        self.assertIs(shows_sum([((0, 1), 1), ((0, -1), 0)], [2, 1]), False)
        self.assertIs(shows_sum([((1, 0), 1), ((-1, 0), 0)], [2, 1]), False)
        self.assertIs(shows_sum([((0, 0), 1)], [1]), True)
        self.assertIs(shows_sum([((0, 1), 1)], [1]), False)
        self.assertIs(shows_sum([((-1, -9), 1)], [1]), True)

    def test_least_is_above_0(self):
        # A sum whose least is just 0 shows nothing.
        self.assertIs(shows_sum([((1, 1), 2), ((-1, -1), -2)], [1, 1]), False)
        self.assertIs(shows_sum([((1, 1), 2), ((-1, -1), -3)], [1, 1]), False)
        self.assertIs(shows_sum(self.clash, [0, 0]), False)
        self.assertIs(shows_sum([((-1, -1), 0)], [1]), False)
        self.assertIs(shows_sum([((-1, -1), 1)], [0]), False)

    def test_times_of_0_and_below(self):
        rows = self.clash + [((4, 4), -1)]
        self.assertIs(shows_sum(rows, [1, 1, 0]), True)
        self.assertIs(shows_sum(rows, [1, 1, -1]), False)
        self.assertIs(shows_sum([((1, 1), -1)], [-1]), False)
        self.assertIs(shows_sum([((1, 1), 0), ((0, 0), 1)], [-1, 1]), False)

    def test_a_time_more_or_fewer(self):
        for wrong in ([], [1], [1, 1, 1], [1, 1, 0], [1, 1, None]):
            self.assertIs(shows_sum(self.clash, wrong), False, wrong)

    def test_what_is_no_number(self):
        for wrong in (None, True, False, "1", [1], (1,), [], ()):
            for at in (0, 1):
                times = [1, 1]
                times[at] = wrong
                self.assertIs(shows_sum(self.clash, times), False, times)

    def test_of_anything(self):
        for thing in ODD_THINGS:
            for held in (thing, [thing, 1], [1, thing], [thing, thing], [[thing]]):
                right = held in ([1, 1], [41, 41], [10 ** 30, 10 ** 30]) and all(type(x) is int for x in held)
                self.assertIs(shows_sum(self.clash, held), right, held)
        for wrong in ("11", "ab", ((1, 1),), [[1, 1]], [[1], [1]]):
            self.assertIs(shows_sum(self.clash, wrong), False, wrong)


class PartOrSumTest(unittest.TestCase):
    slowest = 10

    def told(self, rows):
        """What is told of the rows: its kind, held against the rows in whole numbers."""
        before = time.perf_counter()
        told = part_or_sum(rows)
        self.assertLess(time.perf_counter() - before, self.slowest)
        self.assertIs(type(told), tuple)
        self.assertEqual(len(told), 2)
        kind, found = told
        if kind == "part":
            self.assertTrue(is_part(rows, found), (rows, told))
        else:
            self.assertEqual(kind, "sum")
            self.assertTrue(is_sum(rows, found), (rows, told))
            self.assertIs(shows_sum(rows, found), True)
        return kind

    def test_one_row(self):
        self.assertEqual(part_or_sum([((3, 0), 2)]), ("part", ((2, 3), (0, 1))))
        self.assertEqual(self.told([((-1, -1), 0)]), "part")
        self.assertEqual(part_or_sum([((-1, -1), -5)])[0], "part")
        self.assertEqual(self.told([((-1, -1), 1)]), "sum")
        self.assertEqual(self.told([((0, 0), 1)]), "sum")
        self.assertEqual(self.told([((0, 0), 0)]), "part")
        self.assertEqual(self.told([((0, 1), MOST)]), "part")

    def test_a_single_answer(self):
        rows = both_ways([((3, 0), 6), ((4, 6), 11)])
        self.assertEqual(part_or_sum(rows), ("part", ((2, 1), (1, 2))))
        self.assertEqual(part_or_sum(both_ways([((3, 0), 0), ((0, 7), 21)])), ("part", ((0, 1), (3, 1))))

    def test_no_part_is_below_0(self):
        # By -1 and 2 these would hold, but by no counts.
        self.assertEqual(self.told(both_ways([((1, 1), 1), ((0, 1), 2)])), "sum")
        self.assertEqual(self.told([((-1, 0), 1), ((1, 1), 0)]), "sum")

    def test_rows_that_just_meet_and_just_miss(self):
        for gap, kind in ((0, "part"), (1, "sum")):
            self.assertEqual(self.told([((1, 1), 2 + gap), ((-1, -1), -2)]), kind)
            self.assertEqual(self.told([((MOST, 1), MOST), ((-MOST, -1), gap - MOST)]), kind)
            self.assertEqual(self.told([((1,) * 16, 40 + gap), ((-1,) * 16, -40)]), kind)

    def test_parts_may_be_needed_where_no_whole_counts_do(self):
        self.assertEqual(part_or_sum(both_ways([((2, 0), 1), ((0, 1), 0)])), ("part", ((1, 2), (0, 1))))

    def test_lists_for_tuples_and_tuples_for_lists(self):
        rng = seeded(11)
        for _ in range(50):
            rows = [row_from(rng, 4, -3, 3, rng.randint(-2, 2)) for _ in range(5)]
            self.assertEqual(part_or_sum(tuple([list(numbers), least] for numbers, least in rows)), part_or_sum(rows))

    def test_rows_of_sayings(self):
        rng = seeded(12)
        seen = {"part": 0, "sum": 0}
        for _ in range(400):
            many = rng.randint(1, 4)
            sayings = [some_saying(rng, many, 3, rng.choice((3, 40))) for _ in range(rng.randint(0, 10))]
            seen[self.told(base_rows(many, rng.randint(0, 40), sayings))] += 1
        self.assertGreater(min(seen.values()), 60)

    def test_a_sum_is_told_only_where_there_is_no_world(self):
        rng = seeded(13)
        worlds = worlds_of(2, 4)
        for _ in range(250):
            sayings = [some_saying(rng, 2, 2, 3) for _ in range(rng.randint(1, 4))]
            if any(all(is_true(saying, world) for saying in sayings) for world in worlds):
                self.assertEqual(self.told(base_rows(2, 4, sayings)), "part", sayings)

    def test_clashing_sayings(self):
        for sayings in ([("all", A, B), ("notall", A, B)], [("more", A, B), ("more", B, C), ("more", C, A)],
                        [("least", 41, ANY, ANY)], [("under", 0, 1, A, B)],
                        [("all", A, B), ("all", B, C), ("notall", A, C)]):
            self.assertEqual(self.told(base_rows(3, 40, sayings)), "sum")

    def test_all_small_rows(self):
        numbers = list(itertools.product((-1, 0, 1), repeat=2))
        rows = [(pair, least) for pair in numbers for least in (-1, 0, 1)]
        for chosen in itertools.combinations(rows, 2):
            self.told(list(chosen))

    def test_rows_of_ones_own_of_each_size(self):
        rng = seeded(14)
        for width in range(2, 17):
            for many in (1, 2, 7, 15, 30):
                for size in (1, 9, MOST):
                    self.told([row_from(rng, width, -size, size, rng.randint(-size, size)) for _ in range(many)])

    def test_the_most_rows_and_numbers(self):
        rng = seeded(15)
        seen = {"part": 0, "sum": 0}
        for low, high in ((-MOST, MOST), (-MOST, MOST // 2), (-MOST // 2, MOST), (0, MOST)):
            for _ in range(10):
                seen[self.told([row_from(rng, 16, low, high, rng.randint(-MOST, MOST)) for _ in range(30)])] += 1
        self.assertGreater(min(seen.values()), 5)

    def test_rows_that_leave_nothing_over(self):
        rng = seeded(16)
        for size in (1, 9, 999, 99999):
            for _ in range(8):
                rows = tight_rows(rng, 16, 29, size)
                self.assertEqual(self.told(rows), "part")
                self.assertEqual(self.told(closed_by(rows)), "sum")

    def test_rows_that_are_met_both_ways(self):
        rng = seeded(17)
        for _ in range(20):
            rows = both_ways(tight_rows(rng, 16, 15, 9))
            self.assertEqual(self.told(rows), "part")
            at = rng.randrange(30)
            rows[at] = (rows[at][0], rows[at][1] + 1)
            self.assertEqual(self.told(rows), "sum")

    def test_rows_of_least_0_but_one(self):
        # Every swap but the last leaves all counts at 0 here, so bad ones would go round.
        rng = seeded(18)
        for size in (1, 2, 9, MOST):
            for _ in range(12):
                rows = [row_from(rng, 16, -size, size, 0) for _ in range(29)]
                self.told(rows + [row_from(rng, 16, -size, size, 1)])
                self.told([((1,) * 16, 1)] + rows)

    def test_rows_on_which_careless_swaps_go_round(self):
        # Beale's rows, in whole numbers, that ask for the best that there is and for a little more.
        rows = [((-25, 6000, 4, -900), 0), ((-50, 9000, 2, -300), 0), ((0, 0, -1, 0), -1)]
        for more, kind in ((0, "part"), (1, "sum")):
            self.assertEqual(self.told(rows + [((75, -15000, 2, -600), 5 + more)]), kind)
        # Kuhn's.
        rows = [((2, 9, -1, -9), 0), ((-1, -3, 1, 6), 0), ((-2, -3, 1, 12), -2)]
        for more, kind in ((0, "part"), (1, "sum")):
            self.assertEqual(self.told(rows + [((2, 3, -1, -12), 2 + more)]), kind)

    def test_cubes_of_many_corners(self):
        rng = seeded(19)
        for width in (2, 8, 16):
            for more, kind in ((0, "part"), (1, "sum")):
                rows = cube_rows(width, more)
                self.assertEqual(self.told(rows), kind)
                self.assertEqual(self.told(rows[::-1]), kind)
                order = rng.sample(range(width), width)
                self.assertEqual(self.told([(tuple(row[0][k] for k in order), row[1]) for row in rows]), kind)


if __name__ == "__main__":
    unittest.main()
