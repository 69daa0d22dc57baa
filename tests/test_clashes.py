"""[12]: clashes."""

import time
import unittest

from somesay.clashes import clash, clashing_pairs, shows_clash
from somesay.finding import world_of
from somesay.sayings import base_rows, is_world
from tests.oracle import (A, ANY, B, BY_FRACTIONS, C, ODD_THINGS, is_paper, is_true, nested, sayings_near, seeded,
                          some_saying, worlds_of)

SLOWEST = 20
ROUND = [("more", A, B), ("some", A, C), ("more", B, C), ("all", C, A), ("more", C, A)]
SIZES = ((1, 0), (1, 4), (2, 3), (2, 4), (3, 2))


def drawn(rng, many, most, wanted):
    if rng.random() < 0.4:
        return sayings_near(rng, many, most, wanted) + [some_saying(rng, many, 2, most)]
    return [some_saying(rng, many, 3, rng.choice((2, most + 1))) for _ in range(wanted)]


def have_world(worlds, sayings):
    return any(all(is_true(saying, world) for saying in sayings) for world in worlds)


class ClashTest(unittest.TestCase):
    def told(self, many, most, sayings):
        """The numbers that are told, what is told with them being held against the document; or None."""
        before = time.perf_counter()
        told = clash(many, most, sayings)
        self.assertLess(time.perf_counter() - before, SLOWEST)
        if told is None:
            self.assertEqual(world_of(many, most, sayings)[0], "world")
            return None
        self.assertIs(type(told), tuple)
        numbers, paper, worlds = told
        self.assertIs(type(numbers), tuple)
        self.assertIs(type(worlds), list)
        self.assertEqual(list(numbers), sorted(set(numbers)))
        kept = [sayings[number] for number in numbers]
        self.assertTrue(is_paper(base_rows(many, most, kept), paper), (sayings, told))
        self.assertEqual(len(worlds), len(numbers))
        for k, world in enumerate(worlds):
            self.assertIs(type(world), tuple)
            self.assertIs(is_world(many, most, kept[:k] + kept[k + 1:], world), True)
            self.assertFalse(is_true(kept[k], world))
        self.assertIs(shows_clash(many, most, sayings, told), True)
        return numbers

    def test_ordinary(self):
        self.assertEqual(self.told(3, 40, ROUND), (0, 2, 4))
        self.assertIsNone(self.told(3, 40, ROUND[:4]))
        self.assertEqual(self.told(2, 40, [("all", A, B), ("some", B, A), ("notall", A, B)]), (0, 2))
        self.assertEqual(self.told(3, 40, [("some", A, A), ("all", A, B), ("all", B, C), ("none", A, C)]), (0, 1, 2, 3))

    def test_no_sayings_have_a_world(self):
        for many in (1, 4):
            for most in (0, 40):
                self.assertIsNone(self.told(many, most, []))

    def test_of_a_single_one_a_world_of_no_sayings(self):
        for saying in (("more", A, A), ("least", 41, A, A), ("under", 0, 3, A, B)):
            for sayings, number in (([saying], 0), ([("some", A, B), saying], 1), ([saying, ("some", A, B)], 0)):
                self.assertEqual(self.told(2, 40, sayings), (number,))
        self.assertEqual(self.told(1, 0, [("all", A, A), ("some", A, A), ("some", ANY, ANY)]), (1,))

    def test_the_last_ones_are_left_out_first(self):
        # Of like sayings the first one remains.
        twice = [("some", A, B), ("none", A, B), ("some", A, B), ("none", A, B)]
        self.assertEqual(self.told(2, 40, twice), (0, 1))
        self.assertEqual(self.told(2, 40, twice[1:]), (0, 1))
        self.assertEqual(self.told(2, 40, [("more", A, A)] * 3), (0,))
        # Three first ones, or two last ones.
        either = [("all", A, B), ("all", B, C), ("notall", A, C), ("all", A, C)]
        self.assertEqual(self.told(3, 40, either), (0, 1, 2))
        self.assertEqual(self.told(3, 40, either[::-1]), (0, 1))
        self.assertEqual(self.told(3, 40, [either[2], either[3], either[0], either[1]]), (0, 1))

    def test_of_sayings_that_fractions_would_do_for(self):
        for many, most, sayings in BY_FRACTIONS:
            numbers = self.told(many, most, sayings + [("all", A, A), ("most", 40, ANY, ANY)])
            self.assertLessEqual(max(numbers), len(sayings) - 1)
            self.assertGreater(len(numbers), 1)

    def test_where_all_worlds_can_be_gone_through(self):
        rng = seeded(71)
        seen = {}
        for many, most in SIZES:
            worlds = worlds_of(many, most)
            for _ in range(90):
                sayings = drawn(rng, many, most, rng.randint(1, 6))
                wanted = None
                if not have_world(worlds, sayings):
                    wanted = list(range(len(sayings)))
                    for k in reversed(range(len(sayings))):
                        fewer = [number for number in wanted if number != k]
                        if not have_world(worlds, [sayings[number] for number in fewer]):
                            wanted = fewer
                    wanted = tuple(wanted)
                self.assertEqual(self.told(many, most, sayings), wanted, sayings)
                size = None if wanted is None else len(wanted)
                seen[size] = seen.get(size, 0) + 1
        self.assertGreater(min(seen.get(size, 0) for size in (None, 1, 2, 3)), 10)

    def test_many_drawn_ones(self):
        rng = seeded(72)
        seen = {True: 0, False: 0}
        for _ in range(150):
            many, most = rng.randint(1, 4), rng.randint(0, 40)
            seen[self.told(many, most, drawn(rng, many, most, rng.randint(3, 9))) is None] += 1
        self.assertGreater(min(seen.values()), 40)

    def test_tuples_for_lists(self):
        self.assertEqual(clash(3, 40, tuple(ROUND)), clash(3, 40, ROUND))
        self.assertEqual(clashing_pairs(3, 40, tuple(ROUND)), clashing_pairs(3, 40, ROUND))


class ShowsClashTest(unittest.TestCase):
    def setUp(self):
        self.numbers, self.paper, self.worlds = clash(3, 40, ROUND)

    def assert_told(self, right, thing, sayings=None):
        self.assertIs(shows_clash(3, 40, ROUND if sayings is None else sayings, thing), right, thing)

    def test_tuples_and_lists(self):
        numbers, paper, worlds = self.numbers, self.paper, self.worlds
        for told in ((numbers, paper, worlds), [numbers, paper, worlds], (list(numbers), tuple(paper), tuple(worlds)),
                     [list(numbers), [list(step) for step in paper], [list(world) for world in worlds]]):
            self.assert_told(True, told)
            self.assert_told(True, told, tuple(ROUND))

    def test_other_clashes_than_the_told_one(self):
        sayings = [("some", A, B), ("none", A, B), ("some", B, A)]
        self.assertEqual(clash(2, 40, sayings)[0], (0, 1))
        numbers, paper, worlds = clash(2, 40, sayings[1:])
        self.assertEqual(numbers, (0, 1))
        self.assertIs(shows_clash(2, 40, sayings, ((1, 2), paper, worlds)), True)
        self.assertIs(shows_clash(2, 40, sayings, ((0, 2), paper, worlds)), False)

    def test_numbers_rise_and_are_there(self):
        for numbers in ((), (0,), (0, 2), (0, 2, 3), (0, 2, 4, 5), (2, 0, 4), (0, 4, 2), (4, 2, 0), (0, 0, 4), (0, 2, 2), (0, 2, 5),
                        (-1, 2, 4), (0, 2, -1), (-5, -3, -1), (False, 2, 4), (0, True, 4), (0, 2, "4"), (0, 2, None), ((0,), 2, 4),
                        [[0, 2, 4]], "024", 24, None, {0: 1}.get(1)):
            self.assert_told(False, (numbers, self.paper, self.worlds))
        self.assert_told(False, ((), [("sum", [1])], []))
        self.assert_told(False, ([], [("sum", [0])], []))

    def test_a_world_for_each_of_the_others_in_order(self):
        one, two, three = self.worlds
        for worlds in ([], [one], [one, two], [one, two, three, three], [two, one, three], [three, two, one], [one, one, one],
                       [(0,) * 8] * 3, [one, two, three[:-1]], [one, two, three + (0,)], [one, two, (41,) + three[1:]],
                       [one, two, (-1,) + three[1:]], [one, two, None], None, (), "abc", 3):
            self.assert_told(False, (self.numbers, self.paper, worlds))

    def test_a_world_has_at_most_most_things(self):
        sayings = [("least", 3, A, A), ("most", 2, A, ANY)]
        numbers, paper, worlds = clash(1, 5, sayings)
        self.assertIs(shows_clash(1, 5, sayings, (numbers, paper, [(0, 0), (0, 5)])), True)
        self.assertIs(shows_clash(1, 5, sayings, (numbers, paper, [(0, 0), (0, 6)])), False)
        self.assertIs(shows_clash(1, 5, sayings, (numbers, paper, [(4, 2), (0, 3)])), False)
        self.assertIs(shows_clash(1, 5, sayings, (numbers, paper, [(3, 2), (2, 3)])), True)

    def test_a_clash_with_one_too_many_is_none(self):
        sayings = [("some", A, B), ("none", A, B), ("some", B, A)]
        paper = world_of(2, 40, sayings)[1]
        none, some = (0, 0, 0, 0), (0, 0, 0, 1)
        for worlds in ([none, some, none], [some, some, some], [none, none, none]):
            self.assertIs(shows_clash(2, 40, sayings, ((0, 1, 2), paper, worlds)), False)

    def test_the_paper_is_for_these_sayings_alone(self):
        whole = world_of(3, 40, ROUND)[1]
        self.assert_told(False, (self.numbers, whole, self.worlds))
        for paper in ([], None, self.paper[:-1], self.paper + self.paper, [("sum", [1, 1, 1, 1])], [("sum", [0, 0, 0, 0])]):
            self.assert_told(False, (self.numbers, paper, self.worlds))
        self.assert_told(True, (self.numbers, [("sum", [0, 7, 7, 7])], self.worlds))
        self.assert_told(False, (self.numbers, [("sum", [0, 7, 7, True])], self.worlds))

    def test_three_parts(self):
        told = (self.numbers, self.paper, self.worlds)
        for wrong in ((), told[:1], told[:2], told + (None,), told + told, (told,), told[::-1], [told, told, told]):
            self.assert_told(False, wrong)

    def test_of_anything(self):
        for thing in ODD_THINGS:
            for held in (thing, (thing,) * 3, [thing, thing, thing], (thing, self.paper, self.worlds), (self.numbers, thing, self.worlds),
                         (self.numbers, self.paper, thing), ((0, 2, thing), self.paper, self.worlds),
                         (self.numbers, [thing], self.worlds), (self.numbers, self.paper, self.worlds[:2] + [thing])):
                self.assert_told(False, held)
        for levels in range(1, 11):
            for box in (list, tuple):
                for inner in (None, True, 0, "sum"):
                    held = nested(inner, levels, lambda x: box(x))
                    self.assert_told(False, held)
                    if levels < 10:
                        self.assert_told(False, (held, held, held))

    def test_where_there_is_a_world_nothing_shows_a_clash(self):
        sayings = ROUND[:4]
        for numbers in ((0,), (0, 2), (0, 1, 2, 3)):
            worlds = [world_of(3, 40, sayings)[1]] * len(numbers)
            size = 1 + len(numbers)
            for times in ([1] * size, [0] + [1] * (size - 1)):
                self.assert_told(False, (numbers, [("sum", times)], worlds), sayings)


class PairsTest(unittest.TestCase):
    def test_ordinary(self):
        sayings = [("some", A, B), ("all", A, B), ("none", A, B), ("notall", A, B), ("none", B, A)]
        self.assertEqual(clashing_pairs(2, 40, sayings), [(0, 2), (0, 4), (1, 3)])
        self.assertEqual(clashing_pairs(3, 40, ROUND), [(3, 4)])
        self.assertEqual(clashing_pairs(3, 40, [ROUND[0], ROUND[2], ROUND[4]]), [])

    def test_of_none_and_of_one(self):
        self.assertEqual(clashing_pairs(2, 40, []), [])
        self.assertEqual(clashing_pairs(2, 40, [("some", A, B)]), [])
        self.assertEqual(clashing_pairs(2, 40, [("more", A, A)]), [])

    def test_of_single_ones_that_have_no_world_all_pairs(self):
        sayings = [("some", A, B), ("more", A, A), ("all", A, B), ("least", 41, A, A)]
        self.assertEqual(clashing_pairs(2, 40, sayings), [(0, 1), (0, 3), (1, 2), (1, 3), (2, 3)])

    def test_like_sayings_told_twice(self):
        self.assertEqual(clashing_pairs(2, 40, [("some", A, B)] * 3), [])
        self.assertEqual(clashing_pairs(2, 40, [("more", A, A)] * 3), [(0, 1), (0, 2), (1, 2)])
        self.assertEqual(clashing_pairs(2, 40, [("some", A, B), ("none", A, B)] * 2), [(0, 1), (0, 3), (1, 2), (2, 3)])

    def test_most_counts(self):
        sayings = [("least", 3, A, A), ("least", 3, ("not", A), ANY)]
        self.assertEqual(clashing_pairs(1, 6, sayings), [])
        self.assertEqual(clashing_pairs(1, 5, sayings), [(0, 1)])

    def test_pairs_that_fractions_would_do_for(self):
        thirds = [("just", 10, ANY, ANY), ("share", 1, 3, ANY, A), ("share", 2, 3, ANY, ("not", A))]
        self.assertEqual(clashing_pairs(1, 40, thirds), [])
        self.assertEqual(clashing_pairs(1, 3, [("under", 4, 5, ANY, A), ("share", 3, 4, ANY, A)]), [(0, 1)])

    def test_where_all_worlds_can_be_gone_through(self):
        rng = seeded(73)
        found = 0
        for many, most in SIZES:
            worlds = worlds_of(many, most)
            for _ in range(50):
                sayings = [some_saying(rng, many, 2, most + 1) for _ in range(rng.randint(0, 6))]
                wanted = [(i, k) for i in range(len(sayings)) for k in range(i + 1, len(sayings))
                          if not have_world(worlds, [sayings[i], sayings[k]])]
                told = clashing_pairs(many, most, sayings)
                self.assertEqual(told, wanted, sayings)
                self.assertIs(type(told), list)
                self.assertTrue(all(type(pair) is tuple for pair in told))
                found += len(told)
        self.assertGreater(found, 100)

    def test_of_ten_sayings(self):
        rng = seeded(74)
        for _ in range(25):
            many, most = rng.randint(2, 4), rng.randint(5, 40)
            sayings = drawn(rng, many, most, 9)
            before = time.perf_counter()
            told = clashing_pairs(many, most, sayings)
            self.assertLess(time.perf_counter() - before, SLOWEST)
            self.assertEqual(told, sorted(set(told)))
            for i, k in told:
                self.assertLess(i, k)
                self.assertEqual(world_of(many, most, [sayings[i], sayings[k]])[0], "none")


if __name__ == "__main__":
    unittest.main()
