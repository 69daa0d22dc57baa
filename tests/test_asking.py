"""[14]: what is best asked next."""

import time
import unittest

from somesay.asking import ask_plan, best_ask, split_by
from somesay.least import all_worlds
from tests.oracle import A, ANY, B, full_term, is_true, sayings_of_each_kind, seeded, some_saying, some_world, worlds_of

SLOWEST = 20
FOUR = [(0, 0, 0, 0), (0, 1, 0, 0), (0, 0, 1, 0), (0, 0, 0, 1)]


def wanted_split(worlds, saying):
    held = [world for world in worlds if is_true(saying, world)]
    return (len(held), len(worlds) - len(held))


def wanted_ask(worlds, sayings):
    told = []
    for number, saying in enumerate(sayings):
        yes, no = wanted_split(worlds, saying)
        if yes and no:
            told.append((max(yes, no), number, yes, no))
    return min(told)[1:] if told else None


def wanted_plan(worlds, sayings):
    told = wanted_ask(worlds, sayings)
    if told is None:
        return []
    number, yes, no = told
    left = [world for world in worlds if is_true(sayings[number], world) == (yes >= no)]
    return [told] + wanted_plan(left, sayings)


class SplitTest(unittest.TestCase):
    def test_ordinary(self):
        self.assertEqual(split_by(FOUR, ("some", A, A)), (2, 2))
        self.assertEqual(split_by(FOUR, ("some", A, B)), (1, 3))
        self.assertEqual(split_by(FOUR, ("all", A, B)), (3, 1))
        self.assertEqual(split_by(FOUR, ("least", 0, A, B)), (4, 0))
        self.assertEqual(split_by(FOUR, ("more", A, A)), (0, 4))

    def test_like_ones_are_counted_each(self):
        self.assertEqual(split_by([(0, 1)] * 3 + [(1, 0)] * 2, ("some", A, A)), (3, 2))
        self.assertEqual(split_by([(0, 1), (1, 0), (0, 1)], ("some", A, A)), (2, 1))

    def test_no_worlds(self):
        for saying in sayings_of_each_kind():
            self.assertEqual(split_by([], saying), (0, 0))
            self.assertEqual(split_by((), saying), (0, 0))

    def test_a_pair_is_a_tuple_of_numbers(self):
        for saying in sayings_of_each_kind():
            told = split_by(FOUR, saying)
            self.assertIs(type(told), tuple)
            self.assertEqual([type(number) for number in told], [int, int])

    def test_lists_for_tuples(self):
        for worlds in (FOUR, tuple(FOUR), [list(world) for world in FOUR], tuple(list(world) for world in FOUR)):
            self.assertEqual(split_by(worlds, ("some", A, A)), (2, 2))

    def test_all_kinds(self):
        worlds = worlds_of(2, 3)
        for saying in sayings_of_each_kind():
            self.assertEqual(split_by(worlds, saying), wanted_split(worlds, saying))

    def test_drawn_ones(self):
        rng = seeded(91)
        for _ in range(150):
            many = rng.randint(1, 4)
            worlds = [some_world(rng, many) for _ in range(rng.randint(0, 30))]
            saying = some_saying(rng, many, 4, 12)
            self.assertEqual(split_by(worlds, saying), wanted_split(worlds, saying))


class BestAskTest(unittest.TestCase):
    def test_ordinary(self):
        sayings = [("some", A, B), ("some", A, A), ("all", A, B)]
        self.assertEqual(best_ask(FOUR, sayings), (1, 2, 2))
        self.assertEqual(best_ask(FOUR, sayings[:1]), (0, 1, 3))
        self.assertEqual(best_ask(FOUR, sayings[2:]), (0, 3, 1))

    def test_of_several_the_first(self):
        self.assertEqual(best_ask(FOUR, [("some", A, B), ("all", A, B)]), (0, 1, 3))
        self.assertEqual(best_ask(FOUR, [("all", A, B), ("some", A, B)]), (0, 3, 1))
        self.assertEqual(best_ask(FOUR, [("some", A, B), ("some", B, B), ("some", A, A)]), (1, 2, 2))

    def test_those_that_hold_in_all_or_in_none_are_passed_over(self):
        self.assertEqual(best_ask(FOUR, [("all", A, A), ("more", A, A), ("some", A, B)]), (2, 1, 3))
        self.assertIsNone(best_ask(FOUR, [("all", A, A), ("more", A, A)]))

    def test_none_to_ask(self):
        self.assertIsNone(best_ask(FOUR, []))
        self.assertIsNone(best_ask([], [("some", A, B)]))
        self.assertIsNone(best_ask([], []))
        self.assertIsNone(best_ask(FOUR[:1], [("some", A, B), ("all", A, B)]))
        self.assertIsNone(best_ask([FOUR[1]] * 5, [("some", A, B), ("some", A, A)]))

    def test_like_worlds_are_counted_each(self):
        sayings = [("some", A, A), ("some", B, B)]
        self.assertEqual(best_ask(FOUR + [FOUR[1]], sayings), (0, 3, 2))
        self.assertEqual(best_ask(FOUR + [FOUR[0], FOUR[1]], sayings), (0, 3, 3))
        self.assertEqual(best_ask([FOUR[0]] + [FOUR[1]] * 3 + [FOUR[2]] * 3 + [FOUR[3]] * 2, sayings), (0, 5, 4))
        self.assertEqual(best_ask([FOUR[1]] * 3 + [FOUR[2]] + [FOUR[3]] * 3, sayings), (1, 4, 3))

    def test_tuples_for_lists(self):
        sayings = [("some", A, B), ("some", A, A)]
        self.assertEqual(best_ask(tuple(map(list, FOUR)), tuple(sayings)), (1, 2, 2))

    def test_drawn_ones(self):
        rng = seeded(92)
        seen = {True: 0, False: 0}
        for _ in range(250):
            many = rng.randint(1, 4)
            worlds = [some_world(rng, many, 8) for _ in range(rng.randint(0, 12))]
            sayings = [some_saying(rng, many, 3, 3) for _ in range(rng.randint(0, 10))]
            told = best_ask(worlds, sayings)
            self.assertEqual(told, wanted_ask(worlds, sayings))
            self.assertIn(type(told), (tuple, type(None)))
            seen[told is None] += 1
        self.assertGreater(min(seen.values()), 30)

    def test_as_many_worlds_as_are_told(self):
        sayings = [("least", n, full_term(8, 4), ("or", full_term(7, 4), ANY)) for n in range(10)]
        worlds = all_worlds(4, 3, [])
        before = time.perf_counter()
        told = best_ask(worlds, sayings)
        self.assertLess(time.perf_counter() - before, SLOWEST)
        number, yes, no = told
        self.assertEqual(yes + no, len(worlds))
        self.assertEqual((yes, no), wanted_split(worlds, sayings[number]))


class PlanTest(unittest.TestCase):
    def test_ordinary(self):
        sayings = [("some", A, B), ("some", A, A), ("some", B, B)]
        # Yes where both are alike: left are the two worlds with a thing of A.
        self.assertEqual(ask_plan(FOUR, sayings), [(1, 2, 2), (0, 1, 1)])
        self.assertEqual(ask_plan(FOUR, sayings[:1]), [(0, 1, 3)])
        self.assertEqual(ask_plan(FOUR, sayings[1:]), [(0, 2, 2), (1, 1, 1)])

    def test_the_greater_part_is_the_answer(self):
        worlds = [(0, 0), (1, 0), (0, 1), (0, 2), (0, 3), (1, 3)]
        counts = [("least", 3, A, A), ("some", A, A), ("least", 2, A, A)]
        # 2 to 4, 4 to 2, 3 to 3: the last one; then yes.
        self.assertEqual(ask_plan(worlds, counts), [(2, 3, 3), (0, 2, 1)])
        # Without the last one: the first one is as good as the second, and the answer is no.
        self.assertEqual(ask_plan(worlds, counts[:2]), [(0, 2, 4), (1, 2, 2)])

    def test_nothing_to_ask(self):
        for worlds, sayings in (([], []), (FOUR, []), ([], [("some", A, A)]), (FOUR[:1] * 4, [("some", A, A)]),
                                (FOUR, [("all", A, A)])):
            told = ask_plan(worlds, sayings)
            self.assertEqual(told, [])
            self.assertIs(type(told), list)

    def test_ends_where_best_ask_tells_none(self):
        rng = seeded(93)
        longest = 0
        for _ in range(200):
            many = rng.randint(1, 4)
            worlds = [some_world(rng, many, 6) for _ in range(rng.randint(0, 40))]
            sayings = [some_saying(rng, many, 3, 4) for _ in range(rng.randint(0, 10))]
            told = ask_plan(worlds, sayings)
            self.assertEqual(told, wanted_plan(worlds, sayings))
            self.assertEqual(ask_plan(tuple(map(list, worlds)), tuple(sayings)), told)
            longest = max(longest, len(told))
        self.assertGreater(longest, 4)

    def test_of_40_worlds_and_10_sayings(self):
        rng = seeded(94)
        for _ in range(10):
            worlds = [some_world(rng, 4, 40) for _ in range(40)]
            sayings = [("least", rng.randint(0, 9), full_term(8, 4), ("is", k)) for k in (0, 1, 2, 3, 0, 1, 2, 3, 1, 2)]
            before = time.perf_counter()
            told = ask_plan(worlds, sayings)
            self.assertLess(time.perf_counter() - before, SLOWEST)
            self.assertEqual(told, wanted_plan(worlds, sayings))
            self.assertEqual(told[0], best_ask(worlds, sayings))


if __name__ == "__main__":
    unittest.main()
