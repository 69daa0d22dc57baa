"""[10]: worlds found, or papers that show there are none."""

import itertools
import time
import unittest

from somesay.finding import forms_of, world_of, world_or_paper
from somesay.papers import paper_size, shows_paper
from somesay.sayings import base_rows, is_world
from somesay.sums import part_or_sum
from tests.oracle import (A, ANY, B, BY_FRACTIONS, C, D, both_ways, cells, counts_of, full_term, is_true, nots, row_is_true,
                          rows_near, sayings_near, sayings_of_each_kind, seeded, some_saying, told_kind, worlds_of)

MOST = 9999999
SLOWEST = 20


def row_in(width, places, number=1):
    return tuple(number if k in places else 0 for k in range(width))


def at_most(width, most):
    return [((-1,) * width, -most)]


class FormsTest(unittest.TestCase):
    def test_of_one_saying(self):
        # Of s 1 and 3, of p 2 and 3, of both 3, of s alone 1.
        self.assertEqual(forms_of([("all", A, B)], 2), [(1,), (3,), (1, 3), (2, 3)])
        self.assertEqual(forms_of([("share", 1, 2, ANY, A)], 1), [(0,), (1,), (0, 1)])

    def test_none_is_empty_or_told_twice(self):
        self.assertEqual(forms_of([("some", A, A)], 1), [(1,)])
        self.assertEqual(forms_of([("some", A, A), ("none", A, A), ("just", 3, A, ANY)], 1), [(1,), (0, 1)])
        self.assertEqual(forms_of([("more", ("not", ANY), ("not", ANY))], 3), [])
        self.assertEqual(forms_of([("all", ("not", ANY), A)], 1), [(1,)])

    def test_of_no_sayings(self):
        self.assertEqual(forms_of([], 4), [])

    def test_rising_by_size_and_then_as_tuples(self):
        found = forms_of([("more", ("not", A), B), ("least", 2, C, ("or", A, B))], 3)
        self.assertEqual(found, [(4,), (0, 4), (2, 6), (5, 6, 7), (0, 2, 4, 6), (2, 3, 6, 7), (4, 5, 6, 7), (1, 2, 3, 5, 6, 7)])

    def test_as_told_for_sayings_from_all_over(self):
        rng = seeded(41)
        for _ in range(200):
            many = rng.randint(1, 4)
            sayings = [some_saying(rng, many) for _ in range(rng.randint(0, 5))]
            wanted = set()
            for saying in sayings:
                s, p = cells(saying[-2], many), cells(saying[-1], many)
                wanted |= {tuple(sorted(x)) for x in (s, p, s & p, s - p) if x}
            told = forms_of(tuple(sayings), many)
            self.assertIs(type(told), list)
            self.assertTrue(all(type(form) is tuple for form in told))
            self.assertEqual(told, sorted(wanted, key=lambda form: (len(form), form)))


class WorldOfTest(unittest.TestCase):
    def told(self, many, most, sayings):
        before = time.perf_counter()
        told = world_of(many, most, sayings)
        self.assertLess(time.perf_counter() - before, SLOWEST)
        kind = told_kind(self, base_rows(many, most, sayings), told)
        if kind == "world":
            self.assertIs(is_world(many, most, sayings, told[1]), True)
            self.assertTrue(all(is_true(saying, told[1]) for saying in sayings))
        return kind

    def test_no_sayings(self):
        for many in (1, 2, 3, 4):
            for most in (0, 1, 40):
                self.assertEqual(self.told(many, most, []), "world")

    def test_most_0(self):
        self.assertEqual(world_of(2, 0, []), ("world", (0, 0, 0, 0)))
        for saying in sayings_of_each_kind():
            for many in (2, 3, 4):
                right = "world" if is_true(saying, (0,) * 2 ** many) else "none"
                self.assertEqual(self.told(many, 0, [saying]), right, saying)

    def test_single_sayings_that_have_no_world(self):
        for saying in (("least", 41, A, A), ("just", 41, ANY, ANY), ("notall", A, A), ("some", A, ("not", A)), ("more", A, A),
                       ("more", A, ANY), ("under", 0, 1, A, B), ("under", 1, 12, A, A), ("just", 1, A, ("not", A)),
                       ("share", 1, 1, ANY, A)):
            kind = "world" if saying[0] == "share" else "none"
            for many in (2, 4):
                self.assertEqual(self.told(many, 40, [saying]), kind, saying)

    def test_single_sayings_at_the_edge_of_most(self):
        for many in (1, 2, 4):
            for most in (0, 1, 3, 40):
                for n, kind in ((most, "world"), (most + 1, "none")):
                    self.assertEqual(self.told(many, most, [("least", n, ANY, A)]), kind)
                    self.assertEqual(self.told(many, most, [("just", n, A, ANY)]), kind)

    def test_no_world_though_fractions_would_do(self):
        for many, most, sayings in BY_FRACTIONS:
            self.assertEqual(part_or_sum(base_rows(many, most, sayings))[0], "part", sayings)
            for order in (sayings, sayings[::-1]):
                self.assertEqual(self.told(many, most, order), "none", sayings)
            sums, wholes, cases = paper_size(world_of(many, most, sayings)[1])
            self.assertGreater(wholes + cases, 0)
            self.assertEqual(sums, 1 + cases)

    def test_one_more_thing_and_there_is_a_world(self):
        for many, most, sayings in ((1, 40, BY_FRACTIONS[0][2]), (1, 12, BY_FRACTIONS[2][2])):
            more = [("just", saying[1] + 1) + saying[2:] if saying[0] == "just" else saying for saying in sayings]
            self.assertEqual(self.told(many, most, more), "world" if more[0][1] == 6 else "none")
        self.assertEqual(self.told(2, 7, BY_FRACTIONS[4][2]), "world")
        self.assertEqual(self.told(2, 25, BY_FRACTIONS[5][2]), "world")
        self.assertEqual(self.told(3, 4, BY_FRACTIONS[6][2]), "none")
        self.assertEqual(self.told(3, 5, BY_FRACTIONS[6][2]), "world")

    def test_where_all_worlds_can_be_gone_through(self):
        rng = seeded(42)
        seen = {"world": 0, "none": 0}
        sizes = {(1, 0): 0, (1, 5): 0, (2, 4): 0, (2, 5): 0, (3, 2): 0, (3, 3): 0}
        worlds = {size: worlds_of(*size) for size in sizes}
        for size in sizes:
            for turn in range(120):
                many, most = size
                wanted = rng.randint(0, 5)
                sayings = (sayings_near(rng, many, most, wanted) if turn % 2 else
                           [some_saying(rng, many, 3, most + 1) for _ in range(wanted)])
                mine = [world for world in worlds[size] if all(is_true(saying, world) for saying in sayings)]
                kind = self.told(many, most, sayings)
                self.assertEqual(kind, "world" if mine else "none", sayings)
                if mine:
                    self.assertIn(world_of(many, most, sayings)[1], mine)
                seen[kind] += 1
        self.assertGreater(min(seen.values()), 100)

    def test_many_drawn_ones(self):
        rng = seeded(43)
        seen = {"world": 0, "none": 0}
        for turn in range(500):
            many, most = rng.randint(1, 4), rng.randint(0, 40)
            sayings = [some_saying(rng, many, rng.randint(1, 5), rng.choice((3, 12, 40))) for _ in range(rng.randint(0, 11))]
            seen[self.told(many, most, sayings)] += 1
        self.assertGreater(min(seen.values()), 80)

    def test_many_drawn_ones_that_fractions_would_do_for(self):
        rng = seeded(44)
        seen = {"world": 0, "none": 0}
        for turn in range(700):
            many, most = rng.choice((1, 2, 2, 3, 3, 4)), rng.randint(5, 40)
            sayings = sayings_near(rng, many, most, rng.randint(3, 10))
            self.assertEqual(part_or_sum(base_rows(many, most, sayings))[0], "part", sayings)
            seen[self.told(many, most, sayings)] += 1
        self.assertGreater(min(seen.values()), 20)

    def test_terms_eight_deep(self):
        s, p = full_term(8, 4), nots(("and", C, ("or", A, D)), 5)
        for saying in sayings_of_each_kind(s, p):
            self.told(4, 40, [saying, ("just", 7, p, s), ("share", 5, 12, ANY, s)])

    def test_lists_for_tuples_and_tuples_for_lists(self):
        for many, most, sayings in BY_FRACTIONS + [(2, 9, [("some", A, B)])]:
            self.assertEqual(world_of(many, most, tuple(sayings)), world_of(many, most, sayings))

    def test_somewhat_beyond_the_bounds(self):
        self.assertEqual(self.told(5, 60, [("just", 51, ANY, ("is", 4)), ("all", ("is", 4), A)]), "world")
        self.assertEqual(self.told(5, 50, [("just", 51, ANY, ("is", 4)), ("all", ("is", 4), A)]), "none")
        self.assertEqual(self.told(2, 40, [("just", n, A, B) for n in [7] * 15]), "world")


class WorldOrPaperTest(unittest.TestCase):
    def told(self, rows, forms=()):
        before = time.perf_counter()
        told = world_or_paper(rows, list(forms))
        self.assertLess(time.perf_counter() - before, SLOWEST)
        return told_kind(self, rows, told)

    def test_the_first_row_alone(self):
        for width in (2, 3, 16):
            for most in (0, 1, 40, MOST):
                self.assertEqual(self.told(at_most(width, most)), "world")

    def test_a_first_row_with_a_least_of_0(self):
        self.assertEqual(world_or_paper([((-1, -1, -1), 0)], []), ("world", (0, 0, 0)))
        self.assertEqual(self.told([((-1, -1), 0), ((1, 0), 0), ((5, -3), 0)], [(0,)]), "world")
        self.assertEqual(self.told([((-1, -1), 0), ((9, 8), 1)], [(0, 1)]), "none")
        self.assertEqual(self.told([((-1, -1), 0), ((0, 0), 1)]), "none")

    def test_rows_that_need_no_thing(self):
        self.assertEqual(world_or_paper([((-1, -1), -3), ((-2, 0), -1), ((-1, -5), -9)], []), ("world", (0, 0)))
        self.assertEqual(self.told([((-1, -1), -3), ((-2, 0), 1)]), "none")
        self.assertEqual(self.told([((-1, -1), -3), ((0, 0), 0), ((1, 1), -5), ((1, 1), -5)]), "world")

    def test_no_forms_and_any_forms(self):
        rows = at_most(3, 9) + both_ways([((2, 2, 4), 5)])
        for forms in ([], [(0,)], [(0, 1)], [(2,), (0, 1), (0, 1, 2)], [(2, 1, 0)], [[0, 1]], ((0, 1), [2])):
            self.assertEqual(self.told(rows, forms), "none")
            self.assertEqual(told_kind(self, rows, world_or_paper(rows, forms)), "none")

    def test_forms_of_one_count_that_is_no_whole_number(self):
        # Of the two first cells there are one and a half, whatever goes for each of both.
        rows = at_most(3, 9) + both_ways([((2, 2, 0), 3)])
        self.assertEqual(self.told(rows, [(0, 1)]), "none")
        self.assertEqual(self.told(rows, [(0,), (1, 2)]), "none")
        self.assertEqual(self.told(at_most(3, 9) + both_ways([((2, 2, 0), 4)]), [(0, 1)]), "world")

    def test_where_all_counts_can_be_gone_through(self):
        rng = seeded(45)
        seen = {"world": 0, "none": 0}
        worlds = {size: counts_of(*size) for size in ((2, 0), (2, 7), (2, 25), (3, 8), (4, 5), (5, 4), (6, 3))}
        for width, most in worlds:
            for size in (1, 2, 3, 7, 30, 1000, MOST):
                for _ in range(14):
                    rows = rows_near(rng, width, rng.randint(2, 8), size, most)
                    if rng.random() < 0.5:
                        rows = rows[:1] + both_ways(rows[1:4])[:rng.randint(2, 6)] + rows[4:]
                    forms = [tuple(sorted(rng.sample(range(width), rng.randint(1, width)))) for _ in range(rng.randint(0, 3))]
                    some = any(all(row_is_true(row, world) for row in rows) for world in worlds[width, most])
                    kind = self.told(rows, sorted(set(forms)))
                    self.assertEqual(kind, "world" if some else "none", rows)
                    seen[kind] += 1
        self.assertGreater(min(seen.values()), 100)

    def test_rows_of_ones_own_of_each_size(self):
        rng = seeded(46)
        seen = {"world": 0, "none": 0}
        for width in range(2, 17):
            for many in (2, 5, 12, 30):
                for size in (1, 9, MOST):
                    most = rng.choice((5, 40, MOST))
                    rows = at_most(width, most)
                    while len(rows) < many:
                        numbers = tuple(rng.randint(-size, size) for _ in range(width))
                        rows.append((numbers, rng.randint(-size, size // 2)))
                    seen[self.told(rows)] += 1
        self.assertGreater(min(seen.values()), 30)

    def test_rows_that_leave_little_over(self):
        rng = seeded(47)
        seen = {"world": 0, "none": 0}
        for width in (4, 8, 12, 16):
            for many in (9, 20, 30):
                for size in (1, 3, 100, 9999):
                    seen[self.told(rows_near(rng, width, many, size, rng.choice((10, 40))))] += 1
        self.assertGreater(min(seen.values()), 10)

    def test_rows_that_are_met_both_ways(self):
        rng = seeded(48)
        for width in (2, 3, 5, 8, 16):
            for many in (1, 2, 3, 8):
                for size in (9, 999, MOST // width):
                    for most in (40, MOST):
                        rows = rows_near(rng, width, 1 + many, size, 40 if size > 9 else most)
                        self.told(at_most(width, most) + both_ways(rows[1:]))

    def test_a_product_of_large_numbers_is_missed(self):
        for one, other in ((9999991, 9999973), (7, 5), (4999, 5003)):
            rows = at_most(2, MOST) + both_ways([((one, -other), 1), ((1, 0), 3)])
            self.assertEqual(self.told(rows), "world" if (3 * one - 1) % other == 0 else "none")
        self.assertEqual(self.told(at_most(2, MOST) + [((1000001, -1000000), 1), ((-1000001, 1000000), -20)]), "world")
        self.assertEqual(self.told(at_most(2, 5) + both_ways([((1000001, -1000000), 3)])), "none")
        self.assertEqual(self.told(at_most(2, 6) + both_ways([((1000001, -1000000), 3)])), "world")
        self.assertEqual(self.told(at_most(3, MOST) + [((9999991, -9999973, 0), 1), ((-9999991, 9999973, 0), -3),
                                                      ((0, 9999937, -9999901), 1), ((0, -9999937, 9999901), -3)]), "none")

    def test_splits_in_halves(self):
        # Some of the things are to weigh half of all by several scales at once.
        rng = seeded(49)
        seen = {"world": 0, "none": 0}
        for width, scales in ((10, 2), (14, 3), (16, 4), (16, 6)):
            for top in (9, 99):
                weights = [tuple(rng.randint(0, top) for _ in range(width)) for _ in range(scales)]
                rows = at_most(width, width) + [(row_in(width, [k], -1), -1) for k in range(width)]
                seen[self.told(rows + both_ways([(row, sum(row) // 2) for row in weights]))] += 1
        self.assertGreater(min(seen.values()), 0)

    def test_covers_that_need_one_more(self):
        threes = [tuple(sorted((k + j) % 13 for k in three)) for three in ((0, 1, 4), (0, 2, 7)) for j in range(13)]
        for width, sets, least in ((13, threes, 7), (5, list(itertools.combinations(range(5), 2)), 4),
                                   (8, list(itertools.combinations(range(8), 2)), 7),
                                   (7, [tuple(sorted((k, (k + 1) % 7))) for k in range(7)], 4)):
            for most, kind in ((least - 1, "none"), (least, "world")):
                rows = at_most(width, most) + [(row_in(width, one), 1) for one in sets]
                self.assertEqual(self.told(rows, sets), kind)
                self.assertEqual(self.told(rows), kind)

    def test_more_than_fit_into_their_places(self):
        for things, places in ((3, 2), (4, 3), (5, 3), (3, 3)):
            width = things * places
            rows = at_most(width, 40) + [(row_in(width, range(k * places, (k + 1) * places)), 1) for k in range(things)]
            for place in range(places):
                for pair in itertools.combinations(range(place, width, places), 2):
                    rows.append((row_in(width, pair, -1), -1))
            self.assertEqual(self.told(rows), "none" if things > places else "world")

    def test_a_part_of_each_is_not_enough(self):
        for width in (2, 5, 16):
            for most, kind in ((width - 1, "none"), (width, "world")):
                self.assertEqual(self.told(at_most(width, most) + [(row_in(width, [k], 2), 1) for k in range(width)]), kind)
                rows = [(tuple(3 * width if j == k else -1 for j in range(width)), 1) for k in range(width)]
                self.assertEqual(self.told(at_most(width, most) + rows), kind)

    def test_lists_for_tuples_and_tuples_for_lists(self):
        rng = seeded(50)
        for _ in range(40):
            rows = rows_near(rng, 4, 7, 5, 9)
            lists = tuple([list(numbers), least] for numbers, least in rows)
            self.assertEqual(world_or_paper(lists, ([0, 1], (2,))), world_or_paper(rows, [(0, 1), (2,)]))

    def test_what_was_told_is_taken_again(self):
        rng = seeded(51)
        for _ in range(40):
            rows = rows_near(rng, 5, 8, 9, 20)
            kind, found = world_or_paper(rows, [])
            if kind == "none":
                again = [list(step) for step in found]
                self.assertIs(shows_paper(rows, again), True)
                self.assertIs(shows_paper(rows[:-1], found), False)


if __name__ == "__main__":
    unittest.main()
