"""[8] and [9]: papers."""

import itertools
import unittest

from somesay.finding import world_or_paper
from somesay.papers import paper_size, rows_at, shows_paper, whole_row
from tests.oracle import ODD_THINGS, counts_of, is_paper, nested, row_is_true, rows_near, seeded

# Twice the first count is 1; the second count is there to be named.
ROWS = [((2, 0), 1), ((-2, 0), -1)]
BY_WHOLE = [("whole", [1, 0], 2, 1), ("sum", [0, 1, 2])]
BY_CASES = [("cases", (0,), 0, 1, 2), ("sum", [1, 0, 2]), ("sum", [0, 1, 2])]
# Ahead of what shows it: a whole that isn't needed, and cases of the second cell.
LONG = [
    ("whole", [1, 1], 3, 1),
    ("cases", (1,), -1, 4, 2),
    ("cases", (1, 0), 5, 3, 6),
    ("whole", [1, 0, 0, 0, 0], 2, 5),
    ("sum", [0, 0, 0, 1]),
    ("sum", [0, 1, 0, 0, 0, 2]),
    ("whole", [3, 0, 0, 0, 0], 6, 7),
    ("sum", [0, 3, 9, 0, 0, 6]),
]
SINGLE_ROWS = [((-1, -1), -3), ((1, 1), 4)]
NO_NUMBERS = (None, True, False, "1", "", (1,), [1], (), [])


def with_part(paper, number, place, part):
    """The paper with another part of a step."""
    step = list(paper[number])
    step[place] = part
    return paper[:number] + [tuple(step)] + paper[number + 1:]


class ShowsPaperTest(unittest.TestCase):
    def assert_told(self, right, rows, thing):
        self.assertIs(shows_paper(rows, thing), right, thing)

    def test_ordinary(self):
        for paper in (BY_WHOLE, BY_CASES, LONG):
            self.assertTrue(is_paper(ROWS, paper))
            self.assert_told(True, ROWS, paper)

    def test_of_one_step(self):
        self.assert_told(True, SINGLE_ROWS, [("sum", [1, 1])])
        self.assert_told(False, SINGLE_ROWS, [("sum", [1, 2])])
        self.assert_told(False, SINGLE_ROWS, [("whole", [1, 1], 1, 1)])
        self.assert_told(False, SINGLE_ROWS, [("cases", (0,), 1, 1, 2)])

    def test_of_no_step(self):
        self.assert_told(False, SINGLE_ROWS, [])
        self.assert_told(False, SINGLE_ROWS, ())

    def test_for_other_rows_it_is_none(self):
        self.assert_told(False, [((2, 0), 2), ((-2, 0), -2)], BY_WHOLE)
        self.assert_told(False, ROWS[::-1], BY_CASES)
        self.assert_told(False, ROWS[:1], BY_WHOLE)
        self.assert_told(False, ROWS + ROWS[:1], BY_WHOLE)
        self.assert_told(False, [((2, 1), 1), ((-2, 1), -1)], BY_CASES)

    def test_a_sum_above_0_in_a_cell_shows_nothing(self):
        self.assert_told(False, [((2, 0), 1), ((-2, 1), -1)], BY_WHOLE)
        self.assert_told(True, [((2, 0), 1), ((-2, -1), -1)], BY_WHOLE)
        self.assert_told(False, ROWS, [("sum", [1, 1])])
        self.assert_told(False, ROWS, [("sum", [0, 0])])

    def test_lists_for_tuples_and_tuples_for_lists(self):
        for paper in (BY_WHOLE, BY_CASES, LONG):
            lists = [[list(part) if isinstance(part, tuple) else part for part in step] for step in paper]
            tuples = tuple(tuple(tuple(part) if isinstance(part, list) else part for part in step) for step in paper)
            for told in (lists, tuples, tuple(lists), list(tuples)):
                self.assert_told(True, ROWS, told)
                self.assert_told(True, [[list(numbers), least] for numbers, least in ROWS], told)
                self.assert_told(True, tuple(ROWS), told)

    def test_times_one_for_each_row_and_none_below_0(self):
        for times in ([1], [1, 0, 0], [], [1, -1], [-1, 0], [0, 0]):
            self.assert_told(False, ROWS, with_part(BY_WHOLE, 0, 1, times))
        for times in ([0, 1], [0, 1, 2, 0], [0, 1, 2, 1], [], [0, 1, -2], [-1, 1, 2], [1, 1, 0], [0, 1, 1]):
            self.assert_told(False, ROWS, with_part(BY_WHOLE, 1, 1, times))
        for times in ([1, 0], [1, 0, 2, 0], [1, 0, -2], [1, 0, 1], [1, 0, 3]):
            self.assert_told(times == [1, 0, 3], ROWS, with_part(BY_CASES, 1, 1, times))

    def test_a_divisor_is_1_at_least(self):
        for divisor in (-2, -1, 0):
            self.assert_told(False, ROWS, with_part(BY_WHOLE, 0, 2, divisor))
            self.assert_told(False, ROWS, with_part(LONG, 0, 2, divisor))
        for divisor in (1, 3):
            self.assert_told(True, ROWS, with_part(LONG, 0, 2, divisor))
        # By 1 the row stays as it is, which shows nothing here; by 3 the numbers are taken up to it.
        self.assert_told(False, ROWS, with_part(BY_WHOLE, 0, 2, 1))
        self.assert_told(True, ROWS, with_part(BY_WHOLE, 0, 2, 3))
        self.assert_told(True, SINGLE_ROWS, [("whole", [1, 1], 1, 1), ("sum", [0, 0, 1])])

    def test_times_and_divisors_of_any_size(self):
        big = 10 ** 60
        self.assert_told(True, ROWS, [("whole", [big, 0], 2 * big, 1), ("sum", [0, big, 2 * big])])
        self.assert_told(True, ROWS, [("whole", [1, 0], big, 1), ("sum", [0, big, 2 * big])])
        self.assert_told(False, ROWS, [("whole", [big, 0], 2 * big + 1, 1), ("sum", [0, big, 2 * big + 1])])
        self.assert_told(False, ROWS, [("whole", [big, 0], 2 * big - 1, 1), ("sum", [0, 1, 1])])
        self.assert_told(False, ROWS, [("whole", [big, 0], 2 * big - 1, 1), ("sum", [0, big, 2 * big])])

    def test_numbers_are_taken_up(self):
        # Half of 3 and of -3, taken up, are 2 and -1.
        rows = [((3, -3), 3), ((-2, 1), -1), ((0, 0), 0)]
        whole = ("whole", [1, 0, 0], 2, 1)
        self.assert_told(True, rows, [whole, ("sum", [0, 1, 0, 1])])
        self.assert_told(False, [((3, -3), 2), ((-2, 1), -1), ((0, 0), 0)], [whole, ("sum", [0, 1, 0, 1])])
        self.assert_told(False, [((3, -3), 3), ((-1, 1), -1), ((0, 0), 0)], [whole, ("sum", [0, 1, 0, 1])])
        self.assert_told(False, [((3, -3), 3), ((-2, 2), -1), ((0, 0), 0)], [whole, ("sum", [0, 1, 0, 1])])

    def test_n_of_a_case_at_0_and_below_and_far_above(self):
        # One of both cases can't be by any counts, the other one says nothing.
        shut = [((-1, 0), 1), ((0, -1), -9)]
        for n in (-10 ** 40, -7, -1):
            told = [("cases", (0,), n, 1, 2), ("sum", [0, 0, 1]), ("sum", [1, 0, 0])]
            self.assert_told(True, shut, told)
            self.assert_told(True, shut, with_part(told, 1, 1, [1, 0, 0]))
        self.assert_told(False, shut, [("cases", (0,), 0, 1, 2), ("sum", [0, 0, 1]), ("sum", [1, 0, 0])])
        for n in (0, 3, 10 ** 40):
            self.assert_told(True, shut, [("cases", (0,), n, 1, 2), ("sum", [1, 0, 0]), ("sum", [1, 0, 0])])
            self.assert_told(n >= 0, shut, [("cases", (0,), n, 1, 2), ("sum", [1, 0, 0]), ("sum", [1, 0, 1])])
        self.assert_told(False, ROWS, with_part(BY_CASES, 0, 2, 1))
        self.assert_told(False, ROWS, with_part(BY_CASES, 0, 2, -1))

    def test_cells_are_unlike_and_there(self):
        for cells in ((0, 0), (0, 1, 0), (2,), (0, 2), (-1,), (0, -1), (), (0, 10 ** 20), (1,)):
            self.assert_told(False, ROWS, with_part(BY_CASES, 0, 1, cells))
        for cells in ((0,), [0]):
            self.assert_told(True, ROWS, with_part(BY_CASES, 0, 1, cells))
        rows = [((2, 2), 1), ((-2, -2), -1)]
        for cells in ((0, 1), (1, 0), [1, 0]):
            self.assert_told(True, rows, with_part(BY_CASES, 0, 1, cells))
        self.assert_told(False, rows, BY_CASES)

    def test_the_first_case_is_of_few_and_the_second_of_more(self):
        self.assert_told(False, ROWS, [("cases", (0,), 0, 2, 1), ("sum", [1, 0, 2]), ("sum", [0, 1, 2])])
        self.assert_told(True, ROWS, [("cases", (0,), 0, 2, 1), ("sum", [0, 1, 2]), ("sum", [1, 0, 2])])

    def test_both_cases_have_to_be_shown(self):
        for number, times in ((1, [0, 1, 2]), (2, [1, 0, 2])):
            self.assert_told(False, ROWS, with_part(BY_CASES, number, 1, times))
        self.assert_told(False, ROWS, [("cases", (0,), 0, 1, 1), ("sum", [1, 0, 2])])

    def test_a_case_has_only_its_own_row(self):
        self.assert_told(False, ROWS, with_part(BY_CASES, 2, 1, [0, 1, 0, 2]))
        self.assert_told(False, ROWS, with_part(LONG, 4, 1, [0, 0, 0, 0, 1]))

    def test_each_step_but_the_first_is_named_once(self):
        self.assert_told(False, ROWS, BY_WHOLE + [("sum", [0, 1, 2])])
        self.assert_told(False, ROWS, [("sum", [0, 1, 2])] + BY_WHOLE)
        self.assert_told(False, ROWS, with_part(BY_CASES, 0, 4, 1))
        self.assert_told(False, ROWS, with_part(BY_CASES, 0, 3, 2))
        for number, place in ((0, 3), (1, 3), (1, 4), (2, 3), (2, 4), (3, 3), (6, 3)):
            right = LONG[number][place]
            for named in range(-2, 11):
                self.assert_told(named == right, ROWS, with_part(LONG, number, place, named))

    def test_a_step_named_twice_by_which_all_would_be_shown(self):
        shut = [((-1, 0), 1), ((0, -1), -9)]
        right = [("cases", (0,), 0, 1, 2), ("whole", [1, 0, 0], 1, 3), ("whole", [1, 0, 0], 1, 4), ("sum", [1, 0, 0, 0]),
                 ("sum", [1, 0, 0, 0])]
        self.assert_told(True, shut, right)
        self.assert_told(False, shut, with_part(right, 2, 3, 3))
        self.assert_told(False, shut, with_part(right, 2, 3, 3)[:4])
        self.assert_told(False, shut, [("cases", (0,), 0, 1, 1), ("sum", [1, 0, 0])])
        self.assert_told(True, shut, [("cases", (0,), 0, 1, 2), ("sum", [1, 0, 0]), ("sum", [1, 0, 0])])

    def test_a_step_names_none_ahead_and_not_itself(self):
        for named in (-1, 0, 2, 10 ** 30):
            self.assert_told(False, ROWS, with_part(BY_WHOLE, 0, 3, named))
            self.assert_told(False, ROWS, with_part(BY_CASES, 0, 3, named))
            self.assert_told(False, ROWS, with_part(BY_CASES, 0, 4, -named))
        ring = [("whole", [1, 0], 2, 1), ("whole", [1, 0, 0], 2, 2), ("whole", [1, 0, 0, 0], 2, 1), ("sum", [0, 1, 2])]
        self.assert_told(False, ROWS, ring)
        self.assert_told(False, ROWS, [("sum", [1, 1]), ("whole", [1, 0], 2, 2), ("sum", [0, 1, 2])])
        # Each one that is named stands behind its own, whatever stands between.
        self.assert_told(True, ROWS, [("cases", (0,), 0, 2, 1), ("whole", [1, 0, 0], 2, 3), ("sum", [1, 0, 2]),
                                      ("sum", [0, 1, 2, 0])])
        self.assert_told(False, ROWS, [("cases", (0,), 0, 3, 2), ("sum", [0, 1, 2, 0]), ("whole", [1, 0, 0], 2, 1),
                                       ("sum", [1, 0, 2])])

    def test_a_part_more_or_fewer(self):
        for paper in (BY_WHOLE, BY_CASES, LONG):
            for number, step in enumerate(paper):
                for wrong in (step[:-1], step + (0,), step + (len(paper),), step[1:], (), step + step, (step,)):
                    self.assert_told(False, ROWS, paper[:number] + [wrong] + paper[number + 1:])

    def test_another_word(self):
        for word in ("Sum", "sums", "", "part", "whole", "cases", None, True, 0, ("sum",), ["sum"], []):
            self.assert_told(False, SINGLE_ROWS, [(word, [1, 1])])
            self.assert_told(word == "whole", ROWS, with_part(BY_WHOLE, 0, 0, word))
            self.assert_told(word == "cases", ROWS, with_part(BY_CASES, 0, 0, word))

    def test_what_is_no_number(self):
        for wrong in NO_NUMBERS:
            for paper, number, place in ((BY_WHOLE, 0, 2), (BY_WHOLE, 0, 3), (BY_CASES, 0, 2), (BY_CASES, 0, 3),
                                         (BY_CASES, 0, 4)):
                self.assert_told(False, ROWS, with_part(paper, number, place, wrong))
            for times in ([wrong, 0], [1, wrong]):
                self.assert_told(False, ROWS, with_part(BY_WHOLE, 0, 1, times))
            for times in ([wrong, 1, 2], [0, wrong, 2], [0, 1, wrong]):
                self.assert_told(False, ROWS, with_part(BY_WHOLE, 1, 1, times))
            for cells in ((wrong,), (0, wrong), (wrong, 0)):
                self.assert_told(False, ROWS, with_part(BY_CASES, 0, 1, cells))

    def test_true_in_a_numbers_place(self):
        # As 1 and 0 each of these would be right.
        self.assert_told(False, SINGLE_ROWS, [("sum", [True, 1])])
        self.assert_told(False, SINGLE_ROWS, [("whole", [1, 1], True, 1), ("sum", [0, 0, 1])])
        self.assert_told(False, ROWS, with_part(BY_WHOLE, 0, 3, True))
        self.assert_told(False, ROWS, with_part(BY_CASES, 0, 1, (False,)))
        self.assert_told(False, ROWS, with_part(BY_CASES, 0, 2, False))
        self.assert_told(False, ROWS, with_part(BY_CASES, 0, 3, True))

    def test_of_anything(self):
        for thing in ODD_THINGS:
            for held in (thing, [thing], (thing,), [thing, thing], [("sum", thing)], [("sum", [thing, thing])],
                         [(thing, [1, 1])], [("sum", [1, 1]), thing]):
                self.assert_told(False, ROWS, held)
            for paper in (BY_WHOLE, BY_CASES):
                for number, step in enumerate(paper):
                    self.assert_told(False, ROWS, paper[:number] + [thing] + paper[number + 1:])
                    for place in range(len(step)):
                        told = shows_paper(ROWS, with_part(paper, number, place, thing))
                        self.assertIs(told, is_paper(ROWS, with_part(paper, number, place, thing)), (number, place, thing))

    def test_ten_deep(self):
        for box in (list, tuple):
            for levels in range(1, 11):
                for inner in (None, True, 0, 1, "sum", "", BY_WHOLE if levels < 9 else 1):
                    self.assert_told(False, ROWS, nested(inner, levels, lambda x: box(x)))

    def test_of_all_small_things(self):
        # All papers of one or two steps with small parts: held against the document once more.
        times = [list(x) for k in (1, 2, 3) for x in itertools.product((-1, 0, 1, 2), repeat=k)]
        wholes = [("whole", x, d, n) for x in times for d in (0, 1, 2) for n in (0, 1, 2)]
        told = [0, 0]
        for first in wholes + [("sum", x) for x in times]:
            for rest in ([], [("sum", [0, 1, 2])], [("sum", [0, 1, 1])], [("sum", [1, 1])]):
                right = is_paper(ROWS, [first] + rest)
                self.assert_told(right, ROWS, [first] + rest)
                told[right] += 1
        self.assertGreater(min(told), 1)

    def test_a_long_one(self):
        # So many wholes stand one behind another as no calls may.
        many = 1500
        paper = [("whole", [1] + [0] * (k + 1), 2, k + 1) for k in range(many)]
        paper.append(("sum", [0, 1] + [0] * (many - 1) + [2]))
        self.assert_told(True, ROWS, paper)
        self.assertEqual(paper_size(paper), (1, many, 0))
        self.assert_told(False, ROWS, with_part(paper, many, 1, [0, 2] + [0] * (many - 1) + [2]))
        self.assertEqual(rows_at(ROWS, paper)[-1], ROWS + [((1, 0), 1)] * many)


class RowsAtTest(unittest.TestCase):
    def test_by_wholes(self):
        self.assertEqual(rows_at(ROWS, BY_WHOLE), [ROWS, ROWS + [((1, 0), 1)]])
        self.assertEqual(rows_at(SINGLE_ROWS, [("sum", [1, 1])]), [SINGLE_ROWS])

    def test_by_cases(self):
        self.assertEqual(rows_at(ROWS, BY_CASES), [ROWS, ROWS + [((-1, 0), 0)], ROWS + [((1, 0), 1)]])

    def test_step_by_step_wherever_they_stand(self):
        first = ROWS + [((0, 0), 0)]
        more = first + [((0, 1), 0)]
        few = more + [((-1, -1), -5)]
        many = more + [((1, 1), 6)]
        expected = [ROWS, first, more, few, first + [((0, -1), 1)], few + [((1, 0), 1)], many, many + [((1, 0), 1)]]
        self.assertEqual(rows_at(ROWS, LONG), expected)

    def test_rows_are_tuples_however_they_were_handed_in(self):
        for paper in (BY_WHOLE, BY_CASES, LONG):
            rows = tuple([list(numbers), least] for numbers, least in ROWS)
            lists = [[list(part) if isinstance(part, tuple) else part for part in step] for step in paper]
            told = rows_at(rows, lists)
            self.assertEqual(told, rows_at(ROWS, paper))
            self.assertIs(type(told), list)
            for one in told:
                self.assertIs(type(one), list)
                self.assertTrue(all(type(row) is tuple and type(row[0]) is tuple for row in one))

    def test_each_row_put_behind_is_true_where_those_ahead_are(self):
        rng = seeded(31)
        worlds = counts_of(3, 5)
        wholes = cases = 0
        for _ in range(300):
            rows = rows_near(rng, 3, rng.randint(2, 6), 4, 5)
            kind, paper = world_or_paper(rows, [(0, 1)])
            if kind == "world":
                continue
            at = rows_at(rows, paper)
            for number, step in enumerate(paper):
                if step[0] == "whole":
                    ahead = [row for row, time in zip(at[number], step[1]) if time > 0]
                    for world in worlds:
                        if all(row_is_true(row, world) for row in ahead):
                            self.assertTrue(row_is_true(at[step[3]][-1], world))
                    wholes += 1
                if step[0] == "cases":
                    for world in worlds:
                        self.assertEqual([row_is_true(at[step[k]][-1], world) for k in (3, 4)].count(True), 1)
                    cases += 1
        self.assertGreater(min(wholes, cases), 20)

    def test_the_rows_at_a_step_have_no_world_either(self):
        rng = seeded(32)
        for _ in range(40):
            rows = rows_near(rng, 4, rng.randint(4, 9), 5, 8)
            kind, paper = world_or_paper(rows, [])
            if kind == "none":
                for number, told in enumerate(rows_at(rows, paper)):
                    kind, again = world_or_paper(told, [])
                    self.assertEqual(kind, "none")
                    self.assertIs(shows_paper(told, again), True)


class SizeTest(unittest.TestCase):
    def test_of_each_kind(self):
        self.assertEqual(paper_size([("sum", [1, 1])]), (1, 0, 0))
        self.assertEqual(paper_size(BY_WHOLE), (1, 1, 0))
        self.assertEqual(paper_size(BY_CASES), (2, 0, 1))
        self.assertEqual(paper_size(LONG), (3, 3, 2))
        self.assertEqual(paper_size(tuple(list(step) for step in LONG)), (3, 3, 2))


class WholeRowTest(unittest.TestCase):
    def test_taken_up_and_not_down(self):
        self.assertEqual(whole_row(((5, -5, 4, -4, 0, 1, -1), 7), 2), ((3, -2, 2, -2, 0, 1, 0), 4))
        self.assertEqual(whole_row(((5, -5), -7), 2), ((3, -2), -3))
        self.assertEqual(whole_row(((5, -5), -7), 3), ((2, -1), -2))
        self.assertEqual(whole_row(((5, -5), -7), 1), ((5, -5), -7))
        self.assertEqual(whole_row([[9, 10, 11], 0], 10), ((1, 1, 2), 0))

    def test_of_any_size(self):
        big = 10 ** 50
        self.assertEqual(whole_row(((big, -big, big + 1), 1 - big), big), ((1, -1, 2), 0))
        self.assertEqual(whole_row(((big, -big, 0), -1), 10 * big), ((1, 0, 0), 0))

    def test_a_told_row_is_a_row(self):
        told = whole_row([[1, 2], 3], 2)
        self.assertIs(type(told), tuple)
        self.assertIs(type(told[0]), tuple)


if __name__ == "__main__":
    unittest.main()
