"""[13]: least worlds, all of them, and how few and how many things of a term there are."""

import time
import unittest
from math import comb

from somesay.finding import world_of
from somesay.least import all_worlds, fewest_things, greatest_count, least_count, least_world, shows_least
from somesay.sayings import base_rows, is_world
from tests.oracle import (A, ANY, B, BY_FRACTIONS, C, ODD_THINGS, cells, is_paper, is_true, nested, nots, sayings_near,
                          seeded, some_saying, some_term, worlds_of)

SLOWEST = 20
SIZES = ((1, 0), (1, 5), (2, 3), (2, 4), (3, 2))
SHUT = [("some", A, B), ("none", A, B)]
HALVES = [("share", 1, 2, ANY, A), ("share", 1, 2, ANY, ("not", A)), ("least", 5, ANY, ANY)]


def drawn(rng, many, most, wanted):
    if rng.random() < 0.4:
        return sayings_near(rng, many, most, wanted)
    return [some_saying(rng, many, 3, rng.choice((2, most + 1))) for _ in range(wanted)]


def some_term_of(rng, many):
    return some_term(rng, many, rng.randint(1, 4))


def count_of(term, many, world):
    return sum(world[cell] for cell in cells(term, many))


class Case(unittest.TestCase):
    def least(self, many, most, sayings):
        """The least number of things that is told, what is told with it being held against the document."""
        before = time.perf_counter()
        told = least_world(many, most, sayings)
        self.assertLess(time.perf_counter() - before, SLOWEST)
        self.assertIs(type(told), tuple)
        if told[0] == "none":
            self.assertEqual(len(told), 2)
            self.assertTrue(is_paper(base_rows(many, most, sayings), told[1]))
            self.assertIsNone(fewest_things(many, most, sayings))
            return None
        kind, world, paper = told
        self.assertEqual(kind, "world")
        self.assertIs(type(world), tuple)
        self.assertIs(is_world(many, most, sayings, world), True)
        self.assertTrue(all(is_true(saying, world) for saying in sayings))
        if sum(world) == 0:
            self.assertIsNone(paper)
        else:
            self.assertTrue(is_paper(base_rows(many, sum(world) - 1, sayings), paper))
        self.assertIs(shows_least(many, most, sayings, world, paper), True)
        self.assertEqual(fewest_things(many, most, sayings), sum(world))
        return sum(world)


class LeastWorldTest(Case):
    def test_ordinary(self):
        self.assertEqual(self.least(2, 40, [("least", 3, A, B)]), 3)
        self.assertEqual(self.least(2, 40, [("least", 3, A, B), ("least", 4, B, A)]), 4)
        self.assertEqual(self.least(2, 40, [("least", 3, A, B), ("least", 4, B, ("not", A))]), 7)
        self.assertEqual(self.least(3, 40, [("more", A, B), ("more", B, C)]), 2)
        self.assertEqual(self.least(3, 40, [("more", A, B), ("more", B, C), ("some", C, ANY)]), 3)
        self.assertEqual(self.least(2, 40, [("some", A, A), ("share", 5, 12, A, B), ("share", 7, 12, A, ("not", B))]), 12)
        self.assertEqual(self.least(1, 40, [("just", 40, A, ANY)]), 40)
        self.assertEqual(self.least(4, 40, [("some", A, B), ("some", B, C), ("none", A, C)]), 2)

    def test_no_things(self):
        for sayings in ([], [("all", A, B)], [("share", 1, 1, A, B)], [("asmany", A, B), ("most", 0, ANY, ANY)], [("least", 0, A, A)]):
            for most in (0, 1, 40):
                self.assertEqual(self.least(2, most, sayings), 0)
                self.assertEqual(least_world(2, most, sayings), ("world", (0, 0, 0, 0), None))

    def test_one_thing(self):
        self.assertEqual(self.least(1, 1, [("some", A, A)]), 1)
        self.assertEqual(least_world(1, 40, [("some", A, A)])[1], (0, 1))

    def test_no_world(self):
        self.assertIsNone(self.least(2, 40, SHUT))
        self.assertIsNone(self.least(2, 0, [("some", A, B)]))
        self.assertIsNone(self.least(1, 40, [("least", 41, A, A)]))
        for many, most, sayings in BY_FRACTIONS:
            self.assertIsNone(self.least(many, most, sayings))

    def test_most_is_the_least(self):
        self.assertEqual(self.least(2, 7, [("least", 3, A, B), ("least", 4, B, ("not", A))]), 7)
        self.assertIsNone(self.least(2, 6, [("least", 3, A, B), ("least", 4, B, ("not", A))]))

    def test_fractions_would_do_with_fewer(self):
        self.assertEqual(self.least(1, 40, HALVES), 6)
        self.assertEqual(self.least(1, 6, HALVES), 6)
        self.assertIsNone(self.least(1, 5, HALVES))
        thirds = [("some", ANY, ANY), ("share", 1, 3, ANY, A), ("share", 2, 3, ANY, ("not", A)), ("least", 4, A, ANY)]
        self.assertEqual(self.least(2, 40, thirds), 12)

    def test_things_that_are_of_several_classes(self):
        # There are worlds of many more things in which all fits as well.
        for n in (1, 3, 20):
            self.assertEqual(self.least(2, 40, [("just", n, A, ANY), ("just", n, ANY, B)]), n)
            self.assertEqual(self.least(4, 40, [("just", n, ("is", k), ANY) for k in range(4)] + [("least", 1, A, ANY)]), n)
        self.assertEqual(self.least(3, 40, [("just", 10, A, ANY), ("just", 7, B, ANY), ("least", 3, A, ("not", C))]), 10)
        self.assertEqual(self.least(1, 37, [("more", ANY, A), ("share", 2, 6, ANY, A)]), 2)
        ninths = [("more", ANY, B), ("share", 4, 9, ANY, B), ("share", 5, 9, ANY, ("not", B))]
        self.assertEqual(self.least(2, 40, ninths), 9)
        self.assertEqual(self.least(2, 40, ninths + [("least", 10, ANY, ANY)]), 18)

    def test_where_all_worlds_can_be_gone_through(self):
        rng = seeded(81)
        seen = {}
        for many, most in SIZES:
            worlds = worlds_of(many, most)
            for _ in range(80):
                sayings = drawn(rng, many, most, rng.randint(0, 4))
                sizes = [sum(world) for world in worlds if all(is_true(saying, world) for saying in sayings)]
                wanted = min(sizes, default=None)
                self.assertEqual(self.least(many, most, sayings), wanted, sayings)
                seen[wanted] = seen.get(wanted, 0) + 1
        self.assertGreater(min(seen.get(size, 0) for size in (None, 0, 1, 2, 3)), 5)

    def test_many_drawn_ones(self):
        rng = seeded(82)
        seen = {}
        for _ in range(500):
            many, most = rng.randint(1, 4), rng.randint(0, 40)
            sayings = drawn(rng, many, most, rng.randint(0, 10))
            told = self.least(many, most, sayings)
            if told:
                self.assertEqual(world_of(many, told - 1, sayings)[0], "none")
            seen[told] = seen.get(told, 0) + 1
        self.assertGreater(len(seen), 15)
        self.assertGreater(seen[None], 20)

    def test_tuples_for_lists(self):
        for sayings in (HALVES, SHUT, []):
            self.assertEqual(least_world(2, 40, tuple(sayings)), least_world(2, 40, sayings))
            self.assertEqual(fewest_things(2, 40, tuple(sayings)), fewest_things(2, 40, sayings))


class ShowsLeastTest(unittest.TestCase):
    def setUp(self):
        self.sayings = [("least", 2, A, B), ("notall", A, B)]
        self.world, self.paper = least_world(2, 40, self.sayings)[1:]

    def test_lists_and_tuples(self):
        steps = [list(step) for step in self.paper]
        for world in (self.world, list(self.world)):
            for paper in (self.paper, tuple(self.paper), steps, tuple(tuple(step) for step in steps)):
                self.assertIs(shows_least(2, 40, self.sayings, world, paper), True)
                self.assertIs(shows_least(2, 40, tuple(self.sayings), world, paper), True)

    def test_any_least_world_is_taken(self):
        one = [("some", ANY, ANY)]
        paper = least_world(2, 40, one)[2]
        for world in ((1, 0, 0, 0), (0, 1, 0, 0), [0, 0, 1, 0], (0, 0, 0, 1)):
            self.assertIs(shows_least(2, 40, one, world, paper), True)

    def test_a_world_of_more_things_is_none(self):
        for cell in range(4):
            more = tuple(count + (k == cell) for k, count in enumerate(self.world))
            self.assertIs(is_world(2, 40, self.sayings, more), True)
            self.assertIs(shows_least(2, 40, self.sayings, more, self.paper), False)

    def test_what_is_no_world_is_none(self):
        for wrong in ((0, 0, 0, 0), (0, 0, 0, 2), (0, 0, 0, 3), (0, 2, 0, 1), (0, 1, 0, 2, 0), (0, 1, 2), (0, 1.0, 0, 2),
                      (-1, 1, 0, 3), (False, True, False, 2), None, "0102", 3, [(0, 1, 0, 2)]):
            self.assertIs(shows_least(2, 40, self.sayings, wrong, self.paper), False, wrong)
        self.assertIs(shows_least(2, 3, self.sayings, self.world, self.paper), True)
        self.assertIs(shows_least(2, 2, self.sayings, self.world, self.paper), False)

    def test_the_paper_is_for_one_thing_fewer(self):
        for most in (0, 1):
            fewer = world_of(2, most, self.sayings)[1]
            self.assertIs(shows_least(2, 40, self.sayings, self.world, fewer), False)
        self.assertIs(shows_least(2, 40, self.sayings, self.world, world_of(2, 2, self.sayings)[1]), True)
        for wrong in (None, [], [("sum", [0, 0, 0])], self.paper[:-1], self.paper + self.paper, [self.paper]):
            self.assertIs(shows_least(2, 40, self.sayings, self.world, wrong), False)

    def test_of_no_things_none_and_nothing_else(self):
        nothing = (0, 0, 0, 0)
        self.assertIs(shows_least(2, 40, [("all", A, B)], nothing, None), True)
        self.assertIs(shows_least(2, 40, [("all", A, B)], list(nothing), None), True)
        self.assertIs(shows_least(2, 40, [("some", A, B)], nothing, None), False)
        for thing in ODD_THINGS + [self.paper]:
            if thing is not None:
                self.assertIs(shows_least(2, 40, [("all", A, B)], nothing, thing), False, thing)
        self.assertIs(shows_least(2, 40, [("all", A, B)], (0, 0, 0, 1), None), False)
        # A paper for rows of -1 things at most shows something, but isn't asked for.
        shut = world_of(2, -1, [("all", A, B)])[1]
        self.assertIs(shows_least(2, 40, [("all", A, B)], nothing, shut), False)

    def test_of_anything(self):
        for thing in ODD_THINGS:
            self.assertIs(shows_least(2, 40, self.sayings, thing, self.paper), False, thing)
            self.assertIs(shows_least(2, 40, self.sayings, thing, thing), False, thing)
            self.assertIs(shows_least(2, 40, self.sayings, self.world, thing), False, thing)
            self.assertIs(shows_least(2, 40, self.sayings, self.world, [thing]), False, thing)
            self.assertIs(shows_least(2, 40, self.sayings, [thing] * 4, self.paper), False, thing)
        for levels in range(1, 11):
            for box in (list, tuple):
                held = nested("sum", levels, lambda x: box(x))
                self.assertIs(shows_least(2, 40, self.sayings, self.world, held), False)
                self.assertIs(shows_least(2, 40, self.sayings, held, self.paper), False)


class AllWorldsTest(unittest.TestCase):
    def test_ordinary(self):
        self.assertEqual(all_worlds(1, 2, []), [(0, 0), (0, 1), (0, 2), (1, 0), (1, 1), (2, 0)])
        self.assertEqual(all_worlds(1, 2, [("some", A, A)]), [(0, 1), (0, 2), (1, 1)])
        self.assertEqual(all_worlds(2, 1, [("all", A, B)]), [(0, 0, 0, 0), (0, 0, 0, 1), (0, 0, 1, 0), (1, 0, 0, 0)])
        self.assertEqual(all_worlds(1, 2, [("just", 1, A, A), ("none", ("not", A), ANY)]), [(0, 1)])

    def test_none_and_nothing(self):
        self.assertEqual(all_worlds(2, 5, SHUT), [])
        self.assertEqual(all_worlds(2, 0, [("some", A, A)]), [])
        for many in (1, 2, 3, 4):
            self.assertEqual(all_worlds(many, 0, []), [(0,) * 2 ** many])
            self.assertEqual(all_worlds(many, 0, [("all", A, A)]), [(0,) * 2 ** many])

    def test_as_many_as_there_may_be_at_all(self):
        for many, most in ((1, 40), (2, 13), (3, 5), (4, 3)):
            told = all_worlds(many, most, [])
            self.assertEqual(len(told), comb(most + 2 ** many, most))
            self.assertEqual(told, sorted(set(told)))
            self.assertEqual(told, [world for world in told if len(world) == 2 ** many and 0 <= sum(world) <= most])
            before = time.perf_counter()
            deep = [("most", 2, nots(A, 7), ("or", nots(A, 6), nots(A, 6)))] * 10
            self.assertEqual(all_worlds(many, most, deep), told)
            self.assertLess(time.perf_counter() - before, SLOWEST)

    def test_as_gone_through(self):
        rng = seeded(83)
        for many, most in SIZES + ((2, 6), (3, 3)):
            worlds = worlds_of(many, most)
            for _ in range(25):
                sayings = drawn(rng, many, most, rng.randint(0, 3))
                told = all_worlds(many, most, sayings)
                self.assertIs(type(told), list)
                self.assertEqual(told, sorted(w for w in worlds if all(is_true(saying, w) for saying in sayings)))
                self.assertEqual(all_worlds(many, most, tuple(sayings)), told)


class CountTest(unittest.TestCase):
    def told(self, many, most, sayings, term):
        before = time.perf_counter()
        pair = (least_count(many, most, sayings, term), greatest_count(many, most, sayings, term))
        self.assertLess(time.perf_counter() - before, SLOWEST)
        return pair

    def test_ordinary(self):
        sayings = [("least", 3, A, B), ("most", 7, A, ANY)]
        self.assertEqual(self.told(2, 40, sayings, A), (3, 7))
        self.assertEqual(self.told(2, 40, sayings, ("and", A, B)), (3, 7))
        self.assertEqual(self.told(2, 40, sayings, ("and", A, ("not", B))), (0, 4))
        self.assertEqual(self.told(2, 40, sayings, B), (3, 40))
        self.assertEqual(self.told(2, 40, sayings, ("not", A)), (0, 37))
        self.assertEqual(self.told(2, 40, [("more", A, B), ("just", 3, B, B)], A), (4, 40))

    def test_of_no_sayings(self):
        for many in (1, 4):
            for most in (0, 1, 40):
                for term in (A, ANY, ("not", A)):
                    self.assertEqual(self.told(many, most, [], term), (0, most))
                for term in (("not", ANY), ("and", A, ("not", A))):
                    self.assertEqual(self.told(many, most, [], term), (0, 0))

    def test_no_world(self):
        for term in (A, ANY, ("not", ANY)):
            self.assertEqual(self.told(2, 40, SHUT, term), (None, None))
            for many, most, sayings in BY_FRACTIONS:
                self.assertEqual(self.told(many, most, sayings, term), (None, None))

    def test_no_things(self):
        self.assertEqual(self.told(2, 0, [("all", A, B)], ANY), (0, 0))
        self.assertEqual(self.told(2, 40, [("none", ANY, ANY)], ANY), (0, 0))
        self.assertEqual(self.told(2, 0, [("some", A, B)], ANY), (None, None))

    def test_fractions_would_do_further_out(self):
        self.assertEqual(self.told(1, 40, HALVES, ANY), (6, 40))
        self.assertEqual(self.told(1, 39, HALVES, ANY), (6, 38))
        self.assertEqual(self.told(1, 39, HALVES, A), (3, 19))

    def test_counts_with_gaps_between(self):
        ninths = [("more", ANY, B), ("share", 4, 9, ANY, B), ("share", 5, 9, ANY, ("not", B))]
        self.assertEqual(self.told(2, 40, ninths, ANY), (9, 36))
        self.assertEqual(self.told(2, 27, ninths, ANY), (9, 27))
        self.assertEqual(self.told(2, 40, ninths, B), (4, 16))
        self.assertEqual(self.told(2, 40, ninths, ("not", B)), (5, 20))
        self.assertEqual(self.told(2, 40, ninths + [("least", 10, ANY, ANY), ("most", 35, ANY, ANY)], ANY), (18, 27))

    def test_a_term_of_eight_deep(self):
        self.assertEqual(self.told(1, 40, [("just", 9, A, A)], nots(A, 7)), (0, 31))
        self.assertEqual(self.told(1, 40, [("just", 9, A, A)], nots(("not", A), 7)), (9, 9))

    def test_where_all_worlds_can_be_gone_through(self):
        rng = seeded(84)
        seen = {}
        for many, most in SIZES:
            worlds = worlds_of(many, most)
            for _ in range(80):
                sayings, term = drawn(rng, many, most, rng.randint(0, 4)), some_term_of(rng, many)
                counts = [count_of(term, many, w) for w in worlds if all(is_true(saying, w) for saying in sayings)]
                wanted = (min(counts, default=None), max(counts, default=None))
                self.assertEqual(self.told(many, most, sayings, term), wanted, (sayings, term))
                self.assertEqual(self.told(many, most, tuple(sayings), term), wanted)
                seen[wanted] = seen.get(wanted, 0) + 1
        self.assertGreater(len(seen), 10)

    def test_many_drawn_ones(self):
        rng = seeded(85)
        for _ in range(120):
            many, most = rng.randint(1, 4), rng.randint(0, 40)
            sayings, term = drawn(rng, many, most, rng.randint(0, 9)), some_term_of(rng, many)
            low, high = self.told(many, most, sayings, term)
            if low is None:
                self.assertIsNone(high)
                self.assertEqual(world_of(many, most, sayings)[0], "none")
                continue
            for count, step in ((low, -1), (high, 1)):
                kind, world = world_of(many, most, sayings + [("just", count, term, ANY)])
                self.assertEqual(kind, "world")
                beyond = [("least", count + 1, term, ANY)] if step == 1 else [("most", count - 1, term, ANY)]
                self.assertEqual(world_of(many, most, sayings + beyond)[0], "none")


if __name__ == "__main__":
    unittest.main()
