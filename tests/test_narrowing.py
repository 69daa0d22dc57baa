"""[21]: papers narrowed."""

import unittest

from somesay.clashes import clash
from somesay.finding import world_of, world_or_paper
from somesay.following import follows
from somesay.narrowing import narrowed, sources, used_sayings
from somesay.papers import rows_at, shows_paper
from somesay.sayings import base_rows, opposites, rows_of
from tests.oracle import A, ANY, B, BY_FRACTIONS, C, is_paper, is_true, sayings_near, seeded, some_saying, worlds_of

# Of the second one's two rows only one goes into the sum; the first and third don't at all.
SAYINGS = [("all", B, A), ("just", 2, A, B), ("some", A, A), ("none", A, B)]
ROWS = base_rows(2, 9, SAYINGS)
PLAIN = [("sum", [0, 0, 1, 0, 0, 2])]
# By cases, each with a whole; one case goes by the last saying, the other one by the first of its rows.
CASED = [
    ("cases", (3,), 0, 2, 1),
    ("whole", [0, 0, 0, 0, 0, 3, 0], 3, 3),
    ("sum", [0, 0, 1, 0, 0, 0, 1]),
    ("sum", [0, 0, 0, 0, 0, 0, 1, 1]),
]
FIRST = [("most",), ("saying", 0, 0), ("saying", 1, 0), ("saying", 1, 1), ("saying", 2, 0), ("saying", 3, 0)]


def as_lists(paper):
    return [[list(part) if isinstance(part, (list, tuple)) else part for part in step] for step in paper]


def as_tuples(paper):
    return tuple(tuple(tuple(part) if isinstance(part, list) else part for part in step) for step in paper)


class Case(unittest.TestCase):
    def held(self, many, most, sayings, paper):
        """All three are held against the document for a paper; the numbers of the used sayings are told."""
        rows = base_rows(many, most, sayings)
        self.assertTrue(is_paper(rows, paper))
        told = sources(many, most, sayings, paper)
        self.assertEqual([len(one) for one in told], [len(one) for one in rows_at(rows, paper)])
        self.assert_come_from(many, most, sayings, paper, told)
        wanted = set()
        for step, one in zip(paper, told):
            if step[0] != "cases":
                wanted |= {source[1] for time, source in zip(step[1], one) if time > 0 and source[0] == "saying"}
        used = used_sayings(many, most, sayings, paper)
        self.assertIs(type(used), tuple)
        self.assertEqual(used, tuple(sorted(wanted)))
        self.assert_narrowed(many, most, sayings, paper, told, used)
        return used

    def assert_come_from(self, many, most, sayings, paper, told):
        self.assertIs(type(told), list)
        for at, (rows, one) in enumerate(zip(rows_at(base_rows(many, most, sayings), paper), told)):
            self.assertIs(type(one), list)
            for row, source in zip(rows, one):
                self.assertIs(type(source), tuple)
                if source[0] == "most":
                    self.assertEqual((source, row), (("most",), ((-1,) * 2 ** many, -most)))
                elif source[0] == "saying":
                    self.assertEqual(row, rows_of(sayings[source[1]], many)[source[2]])
                else:
                    self.assertEqual((source[0], len(source)), ("step", 2))
                    self.assertTrue(source[1] < at and paper[source[1]][0] in ("whole", "cases"))

    def assert_narrowed(self, many, most, sayings, paper, told, used):
        pair = narrowed(many, most, sayings, paper)
        self.assertIs(type(pair), tuple)
        self.assertEqual(pair[0], used)
        kept = [sayings[number] for number in used]
        self.assertTrue(is_paper(base_rows(many, most, kept), pair[1]))
        self.assertIs(shows_paper(base_rows(many, most, kept), pair[1]), True)
        self.assertEqual(len(pair[1]), len(paper))
        for step, mine, one in zip(paper, pair[1], told):
            self.assertEqual((mine[0], mine[2:]), (step[0], step[2:]))
            if step[0] == "cases":
                self.assertEqual(mine[1], step[1])
            else:
                left = [time for time, source in zip(step[1], one) if source[0] != "saying" or source[1] in used]
                self.assertEqual(mine[1], left)
        # What is narrowed uses all that is left.
        again = narrowed(many, most, kept, pair[1])
        self.assertEqual(again, (tuple(range(len(kept))), pair[1]))


class SourcesTest(Case):
    def test_ordinary(self):
        self.assertEqual(sources(2, 9, SAYINGS, PLAIN), [FIRST])
        self.assertEqual(sources(2, 9, SAYINGS, CASED), [FIRST, FIRST + [("step", 0)], FIRST + [("step", 0)],
                                                         FIRST + [("step", 0), ("step", 1)]])

    def test_of_no_sayings(self):
        paper = world_of(1, -1, [])[1]
        self.assertEqual(sources(1, -1, [], paper)[0], [("most",)])

    def test_by_the_steps_that_name_it(self):
        # A step's rows come from those ahead of it by which it goes, not from all ahead.
        sayings = [("some", A, A), ("none", A, A)]
        paper = [("cases", (0,), 4, 3, 1), ("cases", (1,), 7, 2, 4), ("sum", [0, 1, 1, 0, 0]), ("whole", [0, 0, 0, 0], 1, 5),
                 ("sum", [0, 1, 1, 0, 0]), ("sum", [0, 1, 1, 0, 0])]
        self.assertIs(shows_paper(base_rows(1, 9, sayings), paper), True)
        first = [("most",), ("saying", 0, 0), ("saying", 1, 0)]
        self.assertEqual(sources(1, 9, sayings, paper), [first, first + [("step", 0)], first + [("step", 0), ("step", 1)],
                                                         first + [("step", 0)], first + [("step", 0), ("step", 1)],
                                                         first + [("step", 0), ("step", 3)]])
        self.assertEqual(self.held(1, 9, sayings, paper), (0, 1))

    def test_no_two_lists_are_one(self):
        told = sources(2, 9, SAYINGS, CASED)
        self.assertEqual(len({id(one) for one in told}), 4)
        told[0].append("spoilt")
        self.assertEqual(told[1], FIRST + [("step", 0)])
        self.assertEqual(sources(2, 9, SAYINGS, CASED)[0], FIRST)


class UsedTest(Case):
    def test_ordinary(self):
        self.assertEqual(self.held(2, 9, SAYINGS, PLAIN), (1, 3))
        self.assertEqual(self.held(2, 9, SAYINGS, CASED), (1, 3))

    def test_the_row_of_most_is_no_saying(self):
        paper = world_of(1, 3, [("least", 4, A, A), ("all", A, A)])[1]
        self.assertEqual(self.held(1, 3, [("least", 4, A, A), ("all", A, A)], paper), (0,))
        self.assertEqual(used_sayings(1, -1, [("all", A, A)], [("sum", [1, 0])]), ())
        self.assertEqual(narrowed(1, -1, [("all", A, A)], [("sum", [1, 0])]), ((), [("sum", [1])]))

    def test_either_row_of_just(self):
        for sayings, paper in (([("just", 2, A, A), ("most", 1, A, A)], [("sum", [0, 1, 0, 1])]),
                               ([("just", 2, A, A), ("least", 3, A, A)], [("sum", [0, 0, 1, 1])])):
            self.assertEqual(self.held(2, 9, sayings, paper), (0, 1))
            self.assertEqual(self.held(2, 9, sayings + [("just", 5, A, B)], [("sum", paper[0][1] + [0, 0])]), (0, 1))
            self.assertEqual(narrowed(2, 9, [("just", 5, A, B)] + sayings, [("sum", [0, 0, 0] + paper[0][1][1:])]), ((1, 2), paper))

    def test_in_some_step_alone(self):
        # A time above 0 in a step by which nothing is shown counts as well.
        sayings = [("some", A, A), ("all", A, B), ("none", A, A)]
        paper = [("whole", [0, 0, 5, 0], 2, 1), ("sum", [0, 1, 0, 1, 0])]
        self.assertEqual(self.held(2, 9, sayings, paper), (0, 1, 2))
        paper = [("whole", [0, 0, 0, 0], 2, 1), ("sum", [0, 1, 0, 1, 0])]
        self.assertEqual(self.held(2, 9, sayings, paper), (0, 2))

    def test_like_sayings_are_each_their_own(self):
        sayings = [("some", A, A), ("some", A, A), ("none", A, A), ("none", A, A)]
        self.assertEqual(self.held(1, 9, sayings, [("sum", [0, 0, 1, 1, 0])]), (1, 2))
        self.assertEqual(self.held(1, 9, sayings, [("sum", [0, 1, 1, 2, 0])]), (0, 1, 2))

    def test_times_beside_those_of_sayings(self):
        # A row that a step put behind stands where no saying's row does.
        sayings = [("some", A, A), ("none", A, A)]
        paper = [("whole", [0, 1, 0], 1, 1), ("sum", [0, 0, 1, 1])]
        self.assertEqual(self.held(1, 9, sayings, paper), (0, 1))


class NarrowedTest(Case):
    def test_ordinary(self):
        self.assertEqual(narrowed(2, 9, SAYINGS, PLAIN), ((1, 3), [("sum", [0, 1, 0, 2])]))
        self.assertEqual(narrowed(2, 9, SAYINGS, CASED), ((1, 3), [
            ("cases", (3,), 0, 2, 1), ("whole", [0, 0, 0, 3, 0], 3, 3), ("sum", [0, 1, 0, 0, 1]), ("sum", [0, 0, 0, 0, 1, 1])]))

    def test_all_used(self):
        sayings = [("some", A, B), ("none", A, B)]
        paper = [("sum", [0, 1, 1])]
        told = narrowed(2, 9, sayings, paper)
        self.assertEqual(told, ((0, 1), paper))
        self.assertIsNot(told[1], paper)
        self.assertIsNot(told[1][0][1], paper[0][1])

    def test_however_it_was_handed_in(self):
        for paper in (PLAIN, CASED):
            wanted = narrowed(2, 9, SAYINGS, paper)
            for handed in (as_lists(paper), as_tuples(paper), tuple(as_lists(paper))):
                for sayings in (SAYINGS, tuple(SAYINGS)):
                    told = narrowed(2, 9, sayings, handed)
                    self.assertEqual(told, wanted)
                    self.assertIs(type(told[1]), list)
                    for step in told[1]:
                        self.assertIs(type(step), tuple)
                        self.assertIs(type(step[1]), tuple if step[0] == "cases" else list)
                    self.assertEqual(used_sayings(2, 9, sayings, handed), wanted[0])
                    self.assertEqual(sources(2, 9, sayings, handed), sources(2, 9, SAYINGS, paper))

    def test_nothing_handed_in_is_changed(self):
        for paper in (as_lists(PLAIN), as_lists(CASED)):
            kept = as_lists(paper)
            told = narrowed(2, 9, SAYINGS, paper)
            told[1][-1][1].append("spoilt")
            self.assertEqual(paper, kept)

    def test_papers_that_fractions_would_not_need(self):
        for many, most, sayings in BY_FRACTIONS:
            more = [("all", A, A)] + sayings + [("just", 0, A, ("not", A)), ("most", 40, ANY, ANY)]
            used = self.held(many, most, more, world_of(many, most, more)[1])
            self.assertTrue(set(used) <= set(range(1, len(sayings) + 1)))

    def test_drawn_papers(self):
        rng = seeded(131)
        seen = {"narrower": 0, "all": 0, "cases": 0, "whole": 0}
        for _ in range(900):
            many, most = rng.randint(1, 4), rng.randint(0, 40)
            near = sayings_near(rng, many, most, rng.randint(3, 9)) if rng.random() < 0.8 else []
            sayings = near + [some_saying(rng, many, 3, rng.choice((2, 9))) for _ in range(rng.randint(0, 10 - len(near)) // 3)]
            # Without forms there are wholes in the place of cases.
            found = rng.choice((world_of(many, most, sayings), world_or_paper(base_rows(many, most, sayings), [])))
            if found[0] == "none":
                paper = found[1]
                used = self.held(many, most, sayings, paper)
                seen["all" if len(used) == len(sayings) else "narrower"] += 1
                for word in ("cases", "whole"):
                    seen[word] += any(step[0] == word for step in paper)
                self.assertEqual(world_of(many, most, [sayings[number] for number in used])[0], "none")
        self.assertGreater(min(seen.values()), 3, seen)
        self.assertGreater(seen["narrower"], 50)

    def test_no_world_is_one_of_those_used(self):
        rng = seeded(132)
        found = 0
        for many, most in ((1, 4), (2, 3), (3, 2)):
            worlds = worlds_of(many, most)
            for _ in range(60):
                sayings = [some_saying(rng, many, 2, most) for _ in range(5)]
                kind, paper = world_of(many, most, sayings)
                if kind == "none":
                    used = self.held(many, most, sayings, paper)
                    self.assertFalse([w for w in worlds if all(is_true(sayings[number], w) for number in used)])
                    found += 1
        self.assertGreater(found, 30)

    def test_papers_of_follows_and_clash(self):
        sayings = [("all", A, B), ("some", C, C), ("all", B, C), ("some", A, A)]
        saying = ("just", 0, A, ("not", C))
        papers = follows(3, 9, sayings, saying)[1]
        for opposite, paper in zip(opposites(saying), papers):
            self.assertEqual(self.held(3, 9, sayings + [opposite], paper), (0, 2, 4))
        numbers, paper, _ = clash(3, 9, sayings + [("none", A, C)])
        kept = [(sayings + [("none", A, C)])[number] for number in numbers]
        self.assertEqual(self.held(3, 9, kept, paper), tuple(range(len(kept))))

    def test_papers_by_forms(self):
        # Papers for base_rows may come from world_or_paper as well.
        for many, most, sayings in BY_FRACTIONS:
            for forms in ([], [(0,)], [tuple(range(2 ** many))]):
                self.held(many, most, sayings, world_or_paper(base_rows(many, most, sayings), forms)[1])


if __name__ == "__main__":
    unittest.main()
