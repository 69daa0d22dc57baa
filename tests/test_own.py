"""[2]: what is handed in stays as it is, what is told is the asker's own, and is told the same again."""

import copy
import unittest

from somesay.asking import ask_plan, best_ask, split_by
from somesay.clashes import clash, clashing_pairs, shows_clash
from somesay.finding import forms_of, world_of, world_or_paper
from somesay.following import follows, needed_for, settled, shows_follows
from somesay.least import all_worlds, fewest_things, greatest_count, least_count, least_world, shows_least
from somesay.narrowing import narrowed, sources, used_sayings
from somesay.papers import paper_size, rows_at, shows_paper, whole_row
from somesay.papertexts import paper_in, paper_text
from somesay.sayings import base_rows, holds, is_saying, is_world, opposites, row_holds, rows_of
from somesay.sheet import run
from somesay.sums import part_or_sum, shows_sum, sum_of
from somesay.terms import cells_of, classes_in, depth_of, is_term
from somesay.texts import saying_of, term_text, text_of
from tests.oracle import A, ANY, B, BY_FRACTIONS, C, ODD_THINGS, nots, rows_near, sayings_of_each_kind, seeded, some_saying

SAYINGS = [("just", 2, A, B), ("more", A, ("not", B)), ("share", 1, 3, ANY, A)]
OPEN_ROWS = [[[2, -1, 0, 0], 1], [[-1, -1, -1, -1], -9]]
SHUT_ROWS = [[[1, 1, 1, 1], 10], [[-1, -1, -1, -1], -9]]
HALF_ROWS = [[[-1, -1], -9], [[2, 0], 1], [[-2, 0], -1]]
HALF_PAPER = [["cases", [0], 0, 1, 2], ["sum", [0, 1, 0, 2]], ["sum", [0, 0, 1, 2]]]
BY_TWO = [["whole", [1, 0], 2, 1], ["sum", [0, 1, 2]]]
# By cases of its form, and by slices where there is none.
FAR_ROWS = [[[-1, -1, -1], -40], [[5, -3, 7], 9], [[-5, 3, -7], -10], [[4, 9, -11], 3], [[-4, -9, 11], -3], [[2, 5, 3], 91]]
CLASHING = [("some", A, B), ("none", A, B)]
CLASH_PAPER = [["cases", [3], 0, 2, 1], ["sum", [0, 0, 1, 1]], ["whole", [0, 1, 0, 1], 1, 3], ["sum", [0, 0, 0, 0, 1]]]
WORLDS = [[0, 0, 0, 0], [0, 1, 0, 0], [0, 0, 0, 1], [0, 0, 0, 1], [2, 0, 3, 0]]

ASKED = [
    (is_term, (("and", A, nots(B, 3)), 2)),
    (cells_of, (("or", A, nots(B, 3)), 2)),
    (depth_of, (("or", A, nots(B, 3)),)),
    (classes_in, (("or", C, ("and", A, C)),)),
    (is_saying, (SAYINGS[2], 2)),
    (is_saying, (list(SAYINGS[2]), 2)),
    (holds, (SAYINGS[1], [1, 2, 3, 4])),
    (opposites, (SAYINGS[0],)),
    (opposites, (("least", 0, A, B),)),
    (rows_of, (SAYINGS[0], 2)),
    (row_holds, ([[1, 0, -1, 2], 3], [4, 3, 2, 1])),
    (base_rows, (2, 9, SAYINGS)),
    (is_world, (2, 9, SAYINGS, [0, 3, 1, 2])),
    (is_world, (2, 9, SAYINGS, [0, 3, [1], 2])),
    (sum_of, (SHUT_ROWS, [3, -2])),
    (shows_sum, (SHUT_ROWS, [1, 1])),
    (shows_sum, (SHUT_ROWS, [1, [1]])),
    (part_or_sum, (OPEN_ROWS,)),
    (part_or_sum, (SHUT_ROWS,)),
    (shows_paper, (HALF_ROWS, HALF_PAPER)),
    (shows_paper, (HALF_ROWS, HALF_PAPER[:2])),
    (shows_paper, (HALF_ROWS, [HALF_PAPER])),
    (rows_at, (HALF_ROWS, HALF_PAPER)),
    (rows_at, (HALF_ROWS[1:], BY_TWO)),
    (paper_size, (HALF_PAPER,)),
    (whole_row, ([[3, -3], 1], 2)),
    (world_or_paper, (HALF_ROWS, [])),
    (world_or_paper, (HALF_ROWS, [[0], [1, 0]])),
    (world_or_paper, ([[[-1, -1, -1, -1], -9]] + OPEN_ROWS[:1], [[0, 3]])),
    (world_or_paper, ([[[-1, -1, -1, -1], -9]] + SHUT_ROWS, [])),
    (world_or_paper, (FAR_ROWS, [])),
    (forms_of, (SAYINGS, 2)),
    (world_of, (2, 9, SAYINGS)),
    (follows, (2, 9, SAYINGS, ("some", A, A))),
    (follows, (2, 9, SAYINGS, ("just", 2, B, A))),
    (follows, (2, 9, SAYINGS, ("just", 3, B, A))),
    (follows, (2, 9, SAYINGS, ("least", 0, B, A))),
    (shows_follows, (2, 9, SAYINGS, ("some", A, B), [[["sum", [0, 1, 0, 0, 0, 1]]]])),
    (settled, (2, 9, SAYINGS, ("all", A, B))),
    (needed_for, (2, 9, SAYINGS, ("some", B, A))),
    (needed_for, (2, 9, SAYINGS, ("all", B, A))),
    (clash, (2, 9, SAYINGS)),
    (clash, (2, 9, SAYINGS + [("none", A, B), ("all", A, B)])),
    (shows_clash, (2, 9, CLASHING, [[0, 1], [["sum", [0, 1, 1]]], [[0, 0, 0, 0], [0, 0, 0, 1]]])),
    (clashing_pairs, (2, 9, SAYINGS + [("none", A, B), ("all", A, B)])),
    (fewest_things, (2, 9, SAYINGS)),
    (fewest_things, (2, 9, CLASHING)),
    (least_world, (2, 9, SAYINGS)),
    (least_world, (2, 9, SAYINGS[2:])),
    (least_world, (2, 9, CLASHING)),
    (shows_least, (2, 9, CLASHING[:1], [0, 0, 0, 1], [["sum", [1, 1]]])),
    (shows_least, (2, 9, CLASHING[1:], [0, 0, 0, 0], None)),
    (all_worlds, (2, 3, CLASHING[:1])),
    (all_worlds, (2, 3, CLASHING)),
    (least_count, (2, 9, SAYINGS, A)),
    (greatest_count, (2, 9, SAYINGS, ("not", A))),
    (greatest_count, (2, 9, CLASHING, ANY)),
    (split_by, (WORLDS, ("some", A, A))),
    (best_ask, (WORLDS, CLASHING + SAYINGS)),
    (best_ask, (WORLDS[:1], CLASHING)),
    (ask_plan, (WORLDS, CLASHING + SAYINGS)),
    (text_of, (SAYINGS[1], ["birds", "cats"])),
    (saying_of, ("all ( birds and not cats ) are things", ["birds", "cats"])),
    (term_text, (("or", A, nots(B, 3)), ["birds", "cats"])),
    (run, ("classes 9 a b\nsay x all a are b\nworld\nfollows all b are a\ncount a\nclash\nlabels",)),
    (sources, (2, 9, CLASHING, CLASH_PAPER)),
    (used_sayings, (2, 9, CLASHING, CLASH_PAPER)),
    (narrowed, (2, 9, CLASHING, CLASH_PAPER)),
    (narrowed, (2, 9, [("all", A, A)] + CLASHING, [["sum", [0, 0, 1, 1]]])),
    (paper_text, (CLASH_PAPER,)),
    (paper_in, ("cases 3 at 0 then 2 or 1\nsum 0 0 1 1\nwhole 0 1 0 1 by 1 then 3\nsum 0 0 0 0 1",)),
] + [(world_of, handed) for handed in BY_FRACTIONS] + [(clash, handed) for handed in BY_FRACTIONS]


def lists_in(told):
    """All lists within what is told, itself too."""
    inner = [found for part in told for found in lists_in(part)] if isinstance(told, (list, tuple)) else []
    return inner + ([told] if isinstance(told, list) else [])


def spoil(told):
    for one in lists_in(told):
        one.append("spoilt")
        one.reverse()


class OwnTest(unittest.TestCase):
    def test_nothing_handed_in_is_changed(self):
        for ask, handed in ASKED:
            before = copy.deepcopy(handed)
            ask(*handed)
            self.assertEqual(handed, before, ask)

    def test_the_same_question_is_told_the_same(self):
        for ask, handed in ASKED:
            self.assertEqual(ask(*handed), ask(*copy.deepcopy(handed)), ask)

    def test_a_changed_told_one_changes_nothing(self):
        for ask, handed in ASKED:
            mine = copy.deepcopy(handed)
            first = ask(*mine)
            kept = copy.deepcopy(first)
            spoil(first)
            self.assertEqual(mine, handed, ask)
            self.assertEqual(ask(*mine), kept, ask)

    def test_no_two_told_lists_are_one(self):
        for ask, handed in ASKED:
            lists = lists_in(ask(*handed)) + lists_in(ask(*handed)) + lists_in(handed)
            self.assertEqual(len({id(one) for one in lists}), len(lists_in(handed)) + 2 * len(lists_in(ask(*handed))), ask)

    def test_nothing_handed_in_is_kept(self):
        for ask, handed in ASKED:
            mine = copy.deepcopy(handed)
            first = ask(*mine)
            kept = copy.deepcopy(first)
            spoil(mine)
            self.assertEqual(first, kept, ask)

    def test_what_was_told_may_be_handed_in_again(self):
        rng = seeded(21)
        for _ in range(60):
            sayings = [some_saying(rng, 3) for _ in range(4)]
            rows = base_rows(3, 12, sayings)
            kind, found = part_or_sum(rows)
            if kind == "sum":
                self.assertIs(shows_sum(rows, found), True)
                summed = sum_of(rows, found)
                self.assertEqual(part_or_sum([summed])[0], "sum")
                self.assertIs(row_holds(summed, (0,) * 8), False)
        for saying in sayings_of_each_kind():
            for other in opposites(saying):
                self.assertTrue(len(opposites(other)) > 0 and rows_of(other, 2))

    def test_told_papers_and_worlds_may_be_handed_in_again(self):
        rng = seeded(22)
        for _ in range(60):
            rows = rows_near(rng, 5, 9, 7, 15)
            kind, found = world_or_paper(rows, [])
            if kind == "world":
                self.assertEqual([row_holds(row, found) for row in rows], [True] * len(rows))
                continue
            self.assertIs(shows_paper(rows, found), True)
            self.assertEqual(sum(paper_size(found)), len(found))
            for told in rows_at(rows, found):
                self.assertEqual(world_or_paper(told, [])[0], "none")
                kind, parts = part_or_sum(told)
                self.assertIn(kind, ("part", "sum"))
        for many, most, sayings in BY_FRACTIONS:
            told = clash(many, most, sayings)
            self.assertIs(shows_clash(many, most, sayings, told), True)
            kept = [sayings[number] for number in told[0]]
            self.assertEqual(clash(many, most, kept)[0], tuple(range(len(kept))))

    def test_told_worlds_and_least_papers_may_be_handed_in_again(self):
        rng = seeded(23)
        for _ in range(40):
            sayings = [some_saying(rng, 2, 3, 3) for _ in range(rng.randint(0, 3))]
            told = all_worlds(2, 7, sayings)
            kind, *found = least_world(2, 7, sayings)
            if kind == "none":
                self.assertEqual(told, [])
                self.assertIs(shows_paper(base_rows(2, 7, sayings), found[0]), True)
                continue
            self.assertIn(found[0], told)
            self.assertIs(shows_least(2, 7, sayings, found[0], found[1]), True)
            if found[1] is not None:
                self.assertGreater(sum(paper_size(found[1])), 0)
                self.assertEqual(world_or_paper(rows_at(base_rows(2, sum(found[0]) - 1, sayings), found[1])[-1], [])[0], "none")
            self.assertEqual(split_by(told, ("all", A, A)), (len(told), 0))
            plan = ask_plan(told, [some_saying(rng, 2, 2, 3) for _ in range(10)])
            self.assertEqual(plan, sorted(plan, key=lambda asked: -asked[1] - asked[2]))

    def test_papers_of_the_table_are_papers(self):
        self.assertIs(shows_paper(base_rows(2, 9, CLASHING), CLASH_PAPER), True)
        self.assertIs(shows_paper(HALF_ROWS, HALF_PAPER), True)

    def test_nothing_done_between_changes_an_answer(self):
        first = [ask(*handed) for ask, handed in ASKED]
        for told in first:
            kept = copy.deepcopy(told)
            spoil(told)
            self.assertEqual(told == kept, not lists_in(told))
        again = [ask(*handed) for ask, handed in reversed(ASKED)][::-1]
        self.assertEqual(again, [ask(*copy.deepcopy(handed)) for ask, handed in ASKED])

    def test_telling_whether_is_true_or_false(self):
        for thing in ODD_THINGS:
            for told in (is_term(thing, 2), is_saying(thing, 2), is_world(2, 9, SAYINGS, thing), shows_sum(SHUT_ROWS, thing),
                         shows_paper(HALF_ROWS, thing), shows_follows(2, 9, SAYINGS, SAYINGS[0], thing),
                         shows_clash(2, 9, CLASHING, thing), shows_least(2, 9, CLASHING[:1], thing, thing)):
                self.assertIn(told, (True, False))
                self.assertIs(type(told), bool)

    def test_somewhat_beyond_the_bounds(self):
        # No refusal is told of these, so they are answered as plainly as any.
        self.assertEqual(cells_of(nots(A, 11), 5), tuple(range(0, 32, 2)))
        self.assertEqual(depth_of(nots(A, 11)), 12)
        self.assertIs(holds(("least", 50, ANY, A), [0, 60]), True)
        self.assertEqual(rows_of(("just", 50, A, A), 1), [((0, 1), 50), ((0, -1), -50)])
        self.assertEqual(base_rows(1, 99, [("all", A, A)] * 12), [((-1, -1), -99)] + [((0, 0), 0)] * 12)
        self.assertIs(is_world(1, 99, [], (90, 9)), True)
        self.assertEqual([sum_of([], []), shows_sum([], []), part_or_sum([])], [((), 0), False, ("part", ())])
        self.assertEqual(part_or_sum([((2,), 1)]), ("part", ((1, 2),)))
        self.assertEqual(part_or_sum([((-1,) * 20, -10 ** 12)] * 40)[0], "part")
        self.assertEqual(fewest_things(1, 99, [("least", 60, A, A)]), 60)
        self.assertEqual(greatest_count(1, 99, [("most", 60, A, A)] * 12, A), 60)
        self.assertEqual(len(all_worlds(2, 15, [])), 3876)
        self.assertEqual(text_of(("least", 50, nots(A, 11), A), ["x"]), "at least 50 " + "not " * 11 + "x are x")


if __name__ == "__main__":
    unittest.main()
