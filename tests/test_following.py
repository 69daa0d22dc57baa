"""[11]: what follows."""

import time
import unittest

from somesay.following import follows, needed_for, settled, shows_follows
from somesay.sayings import base_rows, is_world, opposites
from tests.oracle import (A, ANY, B, BY_FRACTIONS, C, D, ODD_THINGS, is_paper, is_true, nested, sayings_near,
                          sayings_of_each_kind, seeded, some_saying, worlds_of)

SLOWEST = 20
CHAIN = [("all", A, B), ("all", B, C)]
SIZES = ((1, 0), (1, 4), (2, 3), (2, 4), (3, 2))


def drawn(rng, many, most, wanted):
    if rng.random() < 0.4:
        return sayings_near(rng, many, most, wanted)
    return [some_saying(rng, many, 3, rng.choice((2, most + 1))) for _ in range(wanted)]


class Case(unittest.TestCase):
    def told(self, many, most, sayings, saying):
        """"yes" or "no", what is told with it being held against the document."""
        before = time.perf_counter()
        told = follows(many, most, sayings, saying)
        self.assertLess(time.perf_counter() - before, SLOWEST)
        self.assertIs(type(told), tuple)
        kind, found = told
        if kind == "no":
            self.assertIs(type(found), tuple)
            self.assertIs(is_world(many, most, sayings, found), True)
            self.assertTrue(all(is_true(other, found) for other in sayings) and not is_true(saying, found))
            return kind
        self.assertEqual(kind, "yes")
        self.assertIs(type(found), list)
        self.assertEqual(len(found), len(opposites(saying)))
        for other, paper in zip(opposites(saying), found):
            self.assertTrue(is_paper(base_rows(many, most, list(sayings) + [other]), paper))
        self.assertIs(shows_follows(many, most, sayings, saying, found), True)
        return kind


class FollowsTest(Case):
    def test_ordinary(self):
        self.assertEqual(self.told(3, 40, CHAIN, ("all", A, C)), "yes")
        self.assertEqual(self.told(3, 40, CHAIN, ("all", C, A)), "no")
        self.assertEqual(self.told(3, 40, CHAIN + [("some", A, A)], ("some", A, C)), "yes")
        self.assertEqual(self.told(3, 40, CHAIN, ("some", A, C)), "no")
        self.assertEqual(self.told(2, 40, [("least", 5, A, B)], ("least", 4, A, A)), "yes")
        self.assertEqual(self.told(2, 40, [("least", 5, A, B)], ("least", 6, A, A)), "no")
        self.assertEqual(self.told(2, 40, [("more", A, B)], ("notall", A, B)), "yes")
        self.assertEqual(self.told(3, 40, [("share", 2, 3, A, B), ("share", 2, 3, A, C), ("some", A, A)], ("some", B, C)), "yes")
        self.assertEqual(self.told(3, 40, [("share", 1, 2, A, B), ("share", 1, 2, A, C), ("some", A, A)], ("some", B, C)), "no")

    def test_of_least_0_there_is_no_opposite(self):
        for sayings in ([], CHAIN, [("some", A, A), ("none", A, A)]):
            self.assertEqual(follows(3, 40, sayings, ("least", 0, A, B)), ("yes", []))
            self.assertEqual(needed_for(3, 40, sayings, ("least", 0, A, B)), ())
        self.assertEqual(settled(3, 40, CHAIN, ("least", 0, A, B)), "yes")

    def test_of_just_there_are_two_papers(self):
        self.assertEqual(self.told(2, 40, [("just", 3, A, A), ("all", A, B)], ("just", 3, A, B)), "yes")
        self.assertEqual(self.told(2, 40, [("just", 3, A, A)], ("just", 3, A, B)), "no")
        self.assertEqual(len(follows(2, 40, [("just", 3, A, B)], ("just", 3, B, A))[1]), 2)
        self.assertEqual(len(follows(2, 40, [("none", A, B)], ("just", 0, B, A))[1]), 1)
        self.assertEqual(self.told(1, 40, [("least", 40, ANY, A)], ("just", 40, A, A)), "yes")
        self.assertEqual(self.told(1, 40, [("least", 39, ANY, A)], ("just", 40, A, A)), "no")

    def test_of_no_sayings(self):
        for many in (1, 4):
            for saying, kind in ((("all", A, A), "yes"), (("most", 40, A, ANY), "yes"), (("most", 39, A, ANY), "no"),
                                 (("least", 1, A, ANY), "no"), (("asmany", ANY, A), "yes"), (("share", 0, 7, A, A), "yes"),
                                 (("share", 1, 7, ANY, A), "no"), (("some", ANY, ANY), "no"), (("under", 0, 1, A, A), "no")):
                self.assertEqual(self.told(many, 40, [], saying), kind, saying)

    def test_all_follows_where_there_is_no_world(self):
        for saying in sayings_of_each_kind():
            self.assertEqual(self.told(2, 40, [("some", A, B), ("none", B, A)], saying), "yes")
            many, most, sayings = BY_FRACTIONS[4]
            self.assertEqual(self.told(many, most, sayings, saying), "yes")

    def test_most_0_and_most_40(self):
        for saying in sayings_of_each_kind():
            right = "yes" if is_true(saying, (0,) * 4) else "no"
            self.assertEqual(self.told(2, 0, [], saying), right)
            self.assertEqual(self.told(2, 40, [("most", 0, ANY, ANY)], saying), right)

    def test_fractions_would_do_for_the_opposite(self):
        # The count is even where half of it is of a class; it's at most one more than twice a half.
        halves = [("share", 1, 2, ANY, A), ("share", 1, 2, ANY, ("not", A))]
        self.assertEqual(self.told(1, 40, halves + [("least", 5, ANY, ANY)], ("least", 6, ANY, ANY)), "yes")
        self.assertEqual(self.told(1, 40, halves + [("least", 6, ANY, ANY)], ("least", 7, ANY, ANY)), "no")
        self.assertEqual(self.told(1, 39, halves, ("most", 38, ANY, ANY)), "yes")
        self.assertEqual(self.told(1, 40, halves, ("most", 38, ANY, ANY)), "no")
        for many, most, sayings in BY_FRACTIONS:
            for k, saying in enumerate(sayings):
                other = opposites(saying)
                if len(other) == 1:
                    self.assertEqual(self.told(many, most, sayings[:k] + sayings[k + 1:], other[0]), "yes")

    def test_where_all_worlds_can_be_gone_through(self):
        rng = seeded(61)
        seen = {"yes": 0, "no": 0}
        for many, most in SIZES:
            worlds = worlds_of(many, most)
            for _ in range(90):
                sayings, saying = drawn(rng, many, most, rng.randint(0, 4)), some_saying(rng, many, 2, most + 1)
                mine = [world for world in worlds if all(is_true(other, world) for other in sayings)]
                kind = self.told(many, most, sayings, saying)
                self.assertEqual(kind, "yes" if all(is_true(saying, world) for world in mine) else "no", (sayings, saying))
                seen[kind] += 1
        self.assertGreater(min(seen.values()), 100)

    def test_many_drawn_ones(self):
        rng = seeded(62)
        seen = {"yes": 0, "no": 0}
        for _ in range(250):
            many, most = rng.randint(1, 4), rng.randint(0, 40)
            sayings = drawn(rng, many, most, rng.randint(0, 10))
            saying = rng.choice(sayings_near(rng, many, most, 1) + [some_saying(rng, many, 3, 12)])
            seen[self.told(many, most, sayings, saying)] += 1
        self.assertGreater(min(seen.values()), 60)

    def test_tuples_for_lists(self):
        for saying in (("all", A, C), ("all", C, A)):
            self.assertEqual(follows(3, 40, tuple(CHAIN), saying), follows(3, 40, CHAIN, saying))
            self.assertEqual(settled(3, 40, tuple(CHAIN), saying), settled(3, 40, CHAIN, saying))
            self.assertEqual(needed_for(3, 40, tuple(CHAIN), saying), needed_for(3, 40, CHAIN, saying))


class ShowsFollowsTest(Case):
    def setUp(self):
        self.handed = (2, 40, [("just", 3, A, A), ("all", A, B)], ("just", 3, A, B))
        self.papers = follows(*self.handed)[1]

    def test_lists_and_tuples(self):
        papers = self.papers
        lists = [[list(step) for step in paper] for paper in papers]
        for told in (papers, tuple(papers), lists, tuple(tuple(paper) for paper in papers)):
            self.assertIs(shows_follows(*self.handed, told), True)
        self.assertIs(shows_follows(2, 40, tuple(self.handed[2]), self.handed[3], papers), True)

    def test_a_paper_for_each_opposite_in_order(self):
        one, other = self.papers
        for wrong in ([], [one], [other], [other, one], [one, other, other], [one, other, []], [one, []], [one, one],
                      [[one, other]], [one + other]):
            self.assertIs(shows_follows(*self.handed, wrong), False)

    def test_papers_for_other_sayings_are_none(self):
        many, most, sayings, saying = self.handed
        self.assertIs(shows_follows(many, most, sayings[:1], saying, self.papers), False)
        self.assertIs(shows_follows(many, most, sayings[::-1], saying, self.papers), False)
        self.assertIs(shows_follows(many, most, sayings + sayings[:1], saying, self.papers), False)
        self.assertIs(shows_follows(many, most, sayings, ("just", 4, A, B), self.papers), False)
        self.assertIs(shows_follows(many, most, sayings, ("least", 3, A, B), self.papers), False)
        self.assertIs(shows_follows(many, most, sayings, ("least", 3, A, B), self.papers[:1]), True)
        self.assertIs(shows_follows(many, most, sayings, ("most", 3, A, B), self.papers[:1]), False)
        self.assertIs(shows_follows(many, most, sayings, ("most", 3, A, B), self.papers[1:]), True)

    def test_the_row_of_most_counts(self):
        papers = follows(1, 39, [("share", 1, 2, ANY, A), ("share", 1, 2, ANY, ("not", A))], ("most", 38, ANY, ANY))[1]
        handed = ([("share", 1, 2, ANY, A), ("share", 1, 2, ANY, ("not", A))], ("most", 38, ANY, ANY))
        self.assertIs(shows_follows(1, 39, *handed, papers), True)
        self.assertIs(shows_follows(1, 40, *handed, papers), False)

    def test_of_least_0_none(self):
        for sayings in ([], CHAIN):
            for thing in ([], ()):
                self.assertIs(shows_follows(3, 40, sayings, ("least", 0, A, B), thing), True)
            for thing in ODD_THINGS + [[[]], [self.papers], self.papers]:
                if thing not in ([], ()):
                    self.assertIs(shows_follows(3, 40, sayings, ("least", 0, A, B), thing), False, thing)

    def test_of_anything(self):
        for thing in ODD_THINGS:
            for held in (thing, [thing], [thing, thing], [self.papers[0], thing], [thing, self.papers[1]], (thing, [thing]),
                         [self.papers[0], [thing]], [self.papers[0], self.papers[1][:-1] + [thing]]):
                self.assertIs(shows_follows(*self.handed, held), False, held)
        for levels in range(1, 11):
            for box in (list, tuple):
                held = nested("sum", levels, lambda x: box(x))
                self.assertIs(shows_follows(*self.handed, held), False)
                self.assertIs(shows_follows(2, 40, [], ("all", A, B), held), False)


class SettledTest(unittest.TestCase):
    def test_each_word(self):
        some = CHAIN + [("some", A, A)]
        self.assertEqual(settled(3, 40, some, ("some", A, C)), "yes")
        self.assertEqual(settled(3, 40, some, ("none", A, C)), "no")
        self.assertEqual(settled(3, 40, some, ("all", C, A)), "open")
        self.assertEqual(settled(3, 40, some + [("none", A, C)], ("all", C, A)), "clash")
        self.assertEqual(settled(3, 40, CHAIN, ("none", A, C)), "open")
        self.assertEqual(settled(3, 0, some, ("all", A, A)), "clash")
        self.assertEqual(settled(3, 0, CHAIN, ("some", A, A)), "no")
        self.assertEqual(settled(3, 0, CHAIN, ("none", A, A)), "yes")

    def test_of_sayings_that_have_no_world_by_themselves(self):
        for saying in (("more", A, A), ("under", 0, 1, A, B), ("least", 41, A, A)):
            self.assertEqual(settled(2, 40, [], saying), "no")
            self.assertEqual(settled(2, 40, [saying], saying), "clash")
            self.assertEqual(settled(2, 40, [], opposites(saying)[0]), "yes")

    def test_where_all_worlds_can_be_gone_through(self):
        rng = seeded(63)
        seen = {"clash": 0, "yes": 0, "no": 0, "open": 0}
        for many, most in SIZES:
            worlds = worlds_of(many, most)
            for _ in range(80):
                sayings, saying = drawn(rng, many, most, rng.randint(0, 4)), some_saying(rng, many, 2, most + 1)
                held = [is_true(saying, world) for world in worlds if all(is_true(other, world) for other in sayings)]
                right = "clash" if not held else "yes" if all(held) else "no" if not any(held) else "open"
                self.assertEqual(settled(many, most, sayings, saying), right, (sayings, saying))
                seen[right] += 1
        self.assertGreater(min(seen.values()), 20)

    def test_as_follows_tells(self):
        rng = seeded(64)
        for _ in range(120):
            many, most = rng.randint(1, 4), rng.randint(0, 40)
            sayings = drawn(rng, many, most, rng.randint(0, 8))
            saying = some_saying(rng, many, 3, 9)
            before = time.perf_counter()
            word = settled(many, most, sayings, saying)
            self.assertLess(time.perf_counter() - before, SLOWEST)
            clashes = follows(many, most, sayings, ("under", 0, 1, ANY, ANY))[0] == "yes"
            self.assertEqual(word == "clash", clashes)
            if not clashes:
                self.assertEqual(word == "yes", follows(many, most, sayings, saying)[0] == "yes")
                never = [follows(many, most, sayings + [saying], ("some", ("not", ANY), ANY))[0]]
                self.assertEqual(word == "no", never == ["yes"])


class NeededTest(unittest.TestCase):
    def test_ordinary(self):
        sayings = [("some", D, D), ("all", A, B), ("some", A, A), ("all", B, C), ("none", D, A)]
        self.assertEqual(needed_for(4, 40, sayings, ("all", A, C)), (1, 3))
        self.assertEqual(needed_for(4, 40, sayings, ("some", A, C)), (1, 2, 3))
        self.assertEqual(needed_for(4, 40, sayings, ("some", D, ANY)), (0,))
        self.assertEqual(needed_for(4, 40, sayings, ("notall", D, A)), (0, 4))
        self.assertIsNone(needed_for(4, 40, sayings, ("all", C, A)))

    def test_what_follows_from_nothing_needs_nothing(self):
        for sayings in ([], CHAIN, [("some", A, A), ("none", A, A)]):
            self.assertEqual(needed_for(3, 40, sayings, ("all", A, A)), ())
            self.assertEqual(needed_for(3, 40, sayings, ("most", 40, B, C)), ())

    def test_the_last_ones_are_left_out_first(self):
        twice = [("all", A, B), ("all", B, C), ("all", A, B), ("all", B, C)]
        self.assertEqual(needed_for(3, 40, twice, ("all", A, C)), (0, 1))
        self.assertEqual(needed_for(3, 40, twice[1:], ("all", A, C)), (0, 1))
        self.assertEqual(needed_for(2, 40, [("least", 3, A, B), ("least", 5, A, B)], ("least", 2, A, B)), (0,))
        self.assertEqual(needed_for(2, 40, [("least", 3, A, B), ("least", 5, A, B)], ("least", 4, A, B)), (1,))
        # Either both first ones, or the last one.
        either = [("all", A, B), ("all", B, C), ("all", A, C)]
        self.assertEqual(needed_for(3, 40, either, ("all", A, C)), (0, 1))
        self.assertEqual(needed_for(3, 40, either[::-1], ("all", A, C)), (0,))

    def test_where_the_sayings_clash(self):
        sayings = [("some", C, C), ("some", A, B), ("all", A, B), ("none", B, A)]
        self.assertEqual(needed_for(3, 40, sayings, ("some", C, A)), (1, 3))
        self.assertEqual(needed_for(3, 40, sayings, ("some", C, ANY)), (0,))

    def test_where_all_worlds_can_be_gone_through(self):
        rng = seeded(65)
        seen = {None: 0}
        for many, most in SIZES:
            worlds = worlds_of(many, most)

            def still_follows(sayings, saying):
                return all(is_true(saying, world) for world in worlds if all(is_true(other, world) for other in sayings))

            for _ in range(80):
                sayings, saying = drawn(rng, many, most, rng.randint(0, 5)), some_saying(rng, many, 2, 2)
                told = needed_for(many, most, sayings, saying)
                wanted = None
                if still_follows(sayings, saying):
                    wanted = list(range(len(sayings)))
                    for k in reversed(range(len(sayings))):
                        fewer = [number for number in wanted if number != k]
                        if still_follows([sayings[number] for number in fewer], saying):
                            wanted = fewer
                    wanted = tuple(wanted)
                self.assertEqual(told, wanted, (sayings, saying))
                size = None if told is None else len(told)
                seen[size] = seen.get(size, 0) + 1
        self.assertGreater(min(seen.get(size, 0) for size in (None, 0, 1, 2)), 10)

    def test_of_ten_sayings(self):
        rng = seeded(66)
        found = 0
        for _ in range(60):
            many, most = rng.randint(3, 4), rng.randint(10, 40)
            sayings = drawn(rng, many, most, 10)
            saying = some_saying(rng, many, 2, 5)
            before = time.perf_counter()
            told = needed_for(many, most, sayings, saying)
            self.assertLess(time.perf_counter() - before, SLOWEST)
            if told is not None:
                kept = [sayings[number] for number in told]
                self.assertEqual(follows(many, most, kept, saying)[0], "yes")
                for k in range(len(kept)):
                    self.assertEqual(follows(many, most, kept[:k] + kept[k + 1:], saying)[0], "no")
                found += len(told) > 0
        self.assertGreater(found, 10)


if __name__ == "__main__":
    unittest.main()
