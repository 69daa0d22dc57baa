"""[4], [5] and [6]: sayings, their opposites and rows, and worlds."""

import unittest

from somesay.sayings import base_rows, holds, is_saying, is_world, opposites, row_holds, rows_of
from tests.oracle import (A, ANY, B, C, D, ODD_THINGS, full_term, is_true, nots, sayings_of_each_kind, seeded, some_saying,
                          some_term, some_world, worlds_of)

PLAIN = ("all", "notall", "some", "none", "more", "asmany")
COUNTED = ("least", "most", "just")
SHARES = ("share", "under")
NO_NUMBERS = (None, True, False, "1", "", (1,), [1], (), [])


class IsSayingTest(unittest.TestCase):
    def assert_told(self, right, thing, many=2):
        self.assertIs(is_saying(thing, many), right, thing)

    def test_each_kind(self):
        for saying in sayings_of_each_kind():
            self.assert_told(True, saying)

    def test_counts_are_0_to_41(self):
        for kind in COUNTED:
            for n in (-41, -1, 0, 1, 40, 41, 42, 43, 10 ** 20):
                self.assert_told(0 <= n <= 41, (kind, n, A, B))

    def test_shares_are_of_1_to_12_and_no_more_than_all(self):
        for kind in SHARES:
            for bottom in (-12, -1, 0, 1, 2, 11, 12, 13):
                for top in (-1, 0, 1, bottom - 1, bottom, bottom + 1):
                    self.assert_told(1 <= bottom <= 12 and 0 <= top <= bottom, (kind, top, bottom, A, B))

    def test_what_is_no_number(self):
        for wrong in NO_NUMBERS:
            for kind in COUNTED:
                self.assert_told(False, (kind, wrong, A, B))
            for kind in SHARES:
                self.assert_told(False, (kind, wrong, 3, A, B))
                self.assert_told(False, (kind, 1, wrong, A, B))
                self.assert_told(False, (kind, 0, wrong, A, B))

    def test_terms_by_is_term(self):
        openings = [(kind,) for kind in PLAIN] + [("least", 1), ("most", 1), ("just", 1), ("share", 1, 2), ("under", 1, 2)]
        wrongs = (C, ("is", True), ["is", 0], ("not", ["any"]), nots(A, 8), full_term(9, 2), ("any", 0), None, 0, "a", ())
        for opening in openings:
            for right in (nots(A, 7), full_term(8, 2), ANY):
                self.assert_told(True, opening + (right, B))
                self.assert_told(True, opening + (B, right))
            for wrong in wrongs:
                self.assert_told(False, opening + (wrong, B))
                self.assert_told(False, opening + (B, wrong))

    def test_classes_are_below_many(self):
        for many in (1, 2, 3, 4):
            for k in range(5):
                self.assert_told(k < many, ("some", ("is", k), A), many)
                self.assert_told(k < many, ("under", 0, 1, A, ("is", k)), many)

    def test_a_part_more_or_fewer(self):
        for saying in sayings_of_each_kind():
            self.assert_told(False, saying[:-1])
            self.assert_told(False, saying + (A,))
            self.assert_told(False, saying[:1])
            self.assert_told(False, saying[:1] + saying[2:])
            self.assert_told(False, saying[:1] + (1,) + saying[1:])
            self.assert_told(False, saying + (None,))

    def test_numbers_where_there_are_none_and_none_where_there_are(self):
        for kind in PLAIN:
            self.assert_told(False, (kind, 1, A, B))
            self.assert_told(False, (kind, 1, 2, A, B))
        for kind in COUNTED:
            self.assert_told(False, (kind, A, B))
            self.assert_told(False, (kind, 1, 2, A, B))
            self.assert_told(False, (kind, A, 1, B))
        for kind in SHARES:
            self.assert_told(False, (kind, A, B))
            self.assert_told(False, (kind, 1, A, B))
            self.assert_told(False, (kind, A, B, 1, 2))

    def test_another_word(self):
        for word in ("", "All", "every", "no", "not all", "atleast", "exactly", "any", "is", "not", "and", 0, None, True,
                     ("all",), ["all"], [], ()):
            self.assert_told(False, (word, A, B))
            self.assert_told(False, (word, 1, A, B))
            self.assert_told(False, (word, 1, 2, A, B))

    def test_a_list_is_no_saying(self):
        for saying in sayings_of_each_kind():
            self.assert_told(False, list(saying))

    def test_of_anything(self):
        for thing in ODD_THINGS:
            for held in (thing, (thing, A, B), ("least", 1, thing, A), (thing, thing, thing), ("share", thing, thing, A, B)):
                self.assert_told(held == ("all", A, B) or held == ("share", 1, 1, A, B) and type(held[1]) is int, held)


class HoldsTest(unittest.TestCase):
    def test_as_told_in_all_small_worlds(self):
        worlds = worlds_of(2, 3)
        for saying in sayings_of_each_kind() + sayings_of_each_kind(ANY, A) + sayings_of_each_kind(A, ("not", A)):
            for world in worlds:
                self.assertIs(holds(saying, world), is_true(saying, world), (saying, world))

    def test_as_told_in_worlds_from_all_over(self):
        rng = seeded(5)
        for _ in range(3000):
            many = rng.randint(1, 4)
            saying = some_saying(rng, many, rng.randint(1, 5), rng.choice((3, 41)))
            world = some_world(rng, many, rng.choice((3, 40)))
            self.assertIs(holds(saying, world), is_true(saying, world), (saying, world))

    def test_of_no_things(self):
        world = (0, 0, 0, 0)
        for saying in (("all", A, B), ("none", A, B), ("least", 0, A, B), ("most", 0, A, B), ("just", 0, A, B),
                       ("asmany", A, B), ("share", 1, 1, A, B), ("share", 0, 12, A, B), ("most", 41, A, B)):
            self.assertIs(holds(saying, world), True, saying)
        for saying in (("notall", A, B), ("some", A, B), ("least", 1, A, B), ("just", 1, A, B), ("more", A, B),
                       ("under", 1, 1, A, B), ("under", 0, 12, A, B)):
            self.assertIs(holds(saying, world), False, saying)

    def test_shares_of_no_things_of_s(self):
        for world in ((5, 0, 0, 0), (0, 0, 7, 0), (1, 0, 39, 0)):
            for top, bottom in ((0, 1), (1, 1), (1, 12), (12, 12)):
                self.assertIs(holds(("share", top, bottom, A, B), world), True)
                self.assertIs(holds(("under", top, bottom, A, B), world), False)

    def test_of_forty_things(self):
        world = (0, 0, 0, 40)
        for n in (0, 39, 40, 41):
            self.assertIs(holds(("least", n, A, B), world), n <= 40)
            self.assertIs(holds(("most", n, A, B), world), n >= 40)
            self.assertIs(holds(("just", n, A, B), world), n == 40)

    def test_shares_at_their_edge(self):
        # Two of three things of the first class are of the second.
        world = (0, 1, 0, 2)
        for top, bottom, right in ((2, 3, True), (4, 6, True), (8, 12, True), (7, 12, True), (9, 12, False), (3, 4, False),
                                   (1, 1, False), (0, 1, True), (0, 12, True)):
            self.assertIs(holds(("share", top, bottom, A, B), world), right)
            self.assertIs(holds(("under", top, bottom, A, B), world), not right)

    def test_more_and_as_many(self):
        for counts, more, as_many in (((0, 2, 1, 9), True, True), ((0, 1, 1, 9), False, True), ((0, 1, 2, 9), False, False)):
            self.assertIs(holds(("more", A, B), counts), more)
            self.assertIs(holds(("asmany", A, B), counts), as_many)

    def test_of_one_and_four_classes(self):
        self.assertIs(holds(("all", ANY, A), (0, 3)), True)
        self.assertIs(holds(("all", ANY, A), (1, 3)), False)
        world = tuple(range(16))
        self.assertIs(holds(("just", 15, ("and", A, B), ("and", C, D)), world), True)
        self.assertIs(holds(("just", 14, ("and", A, B), ("and", C, D)), world), False)

    def test_a_world_may_be_a_list(self):
        for saying in sayings_of_each_kind():
            for world in worlds_of(2, 2):
                self.assertIs(holds(saying, list(world)), is_true(saying, world))


class OppositesTest(unittest.TestCase):
    def test_without_numbers(self):
        s, p = ("not", A), ("or", A, B)
        for one, other in (("all", "notall"), ("notall", "all"), ("some", "none"), ("none", "some")):
            self.assertEqual(opposites((one, s, p)), [(other, s, p)])
        self.assertEqual(opposites(("more", s, p)), [("asmany", p, s)])
        self.assertEqual(opposites(("asmany", s, p)), [("more", p, s)])

    def test_of_counts(self):
        self.assertEqual(opposites(("least", 0, A, B)), [])
        self.assertEqual(opposites(("least", 1, A, B)), [("most", 0, A, B)])
        self.assertEqual(opposites(("least", 41, A, B)), [("most", 40, A, B)])
        self.assertEqual(opposites(("most", 0, A, B)), [("least", 1, A, B)])
        self.assertEqual(opposites(("most", 40, A, B)), [("least", 41, A, B)])
        self.assertEqual(opposites(("most", 41, A, B)), [("least", 42, A, B)])
        self.assertEqual(opposites(("just", 0, A, B)), [("least", 1, A, B)])
        self.assertEqual(opposites(("just", 1, A, B)), [("most", 0, A, B), ("least", 2, A, B)])
        self.assertEqual(opposites(("just", 40, A, B)), [("most", 39, A, B), ("least", 41, A, B)])

    def test_of_shares(self):
        for top, bottom in ((0, 1), (1, 1), (5, 12), (12, 12)):
            self.assertEqual(opposites(("share", top, bottom, A, B)), [("under", top, bottom, A, B)])
            self.assertEqual(opposites(("under", top, bottom, A, B)), [("share", top, bottom, A, B)])

    def test_one_holds_just_where_the_saying_does_not(self):
        for saying in sayings_of_each_kind() + sayings_of_each_kind(("or", A, B), B):
            for world in worlds_of(2, 4):
                told = [is_true(other, world) for other in opposites(saying)]
                self.assertEqual(sum(told), 0 if is_true(saying, world) else 1, (saying, world))

    def test_they_are_sayings(self):
        for saying in sayings_of_each_kind():
            told = opposites(saying)
            self.assertIs(type(told), list)
            if saying[1] != 41:
                self.assertTrue(all(is_saying(other, 2) for other in told), told)


class RowsTest(unittest.TestCase):
    def test_each_kind(self):
        # Of two classes: cell 1 is of A alone, 2 of B alone, 3 of both.
        for saying, rows in (
                (("all", A, B), [((0, -1, 0, 0), 0)]),
                (("notall", A, B), [((0, 1, 0, 0), 1)]),
                (("some", A, B), [((0, 0, 0, 1), 1)]),
                (("none", A, B), [((0, 0, 0, -1), 0)]),
                (("least", 5, A, B), [((0, 0, 0, 1), 5)]),
                (("most", 5, A, B), [((0, 0, 0, -1), -5)]),
                (("just", 5, A, B), [((0, 0, 0, 1), 5), ((0, 0, 0, -1), -5)]),
                (("more", A, B), [((0, 1, -1, 0), 1)]),
                (("asmany", A, B), [((0, 1, -1, 0), 0)]),
                (("share", 2, 5, A, B), [((0, -2, 0, 3), 0)]),
                (("under", 2, 5, A, B), [((0, 2, 0, -3), 1)])):
            self.assertEqual(rows_of(saying, 2), rows)

    def test_edges_of_numbers(self):
        for saying, rows in (
                (("least", 0, A, B), [((0, 0, 0, 1), 0)]),
                (("most", 0, A, B), [((0, 0, 0, -1), 0)]),
                (("just", 0, A, B), [((0, 0, 0, 1), 0), ((0, 0, 0, -1), 0)]),
                (("just", 41, A, B), [((0, 0, 0, 1), 41), ((0, 0, 0, -1), -41)]),
                (("share", 0, 1, A, B), [((0, 0, 0, 1), 0)]),
                (("share", 1, 1, A, B), [((0, -1, 0, 0), 0)]),
                (("share", 12, 12, A, B), [((0, -12, 0, 0), 0)]),
                (("under", 0, 12, A, B), [((0, 0, 0, -12), 1)]),
                (("under", 12, 12, A, B), [((0, 12, 0, 0), 1)])):
            self.assertEqual(rows_of(saying, 2), rows)

    def test_of_one_and_four_classes(self):
        self.assertEqual(rows_of(("all", ANY, A), 1), [((-1, 0), 0)])
        self.assertEqual(rows_of(("more", A, ("not", A)), 1), [((-1, 1), 1)])
        self.assertEqual(rows_of(("some", A, D), 4), [((0,) * 9 + (1, 0, 1, 0, 1, 0, 1), 1)])
        self.assertEqual(rows_of(("share", 1, 3, C, B), 4), [((0, 0, 0, 0, -1, -1, 2, 2) * 2, 0)])

    def test_terms_that_are_alike_or_of_no_cell(self):
        nothing = ("not", ANY)
        self.assertEqual(rows_of(("more", A, A), 1), [((0, 0), 1)])
        self.assertEqual(rows_of(("some", nothing, A), 1), [((0, 0), 1)])
        self.assertEqual(rows_of(("share", 1, 2, A, nothing), 1), [((0, -1), 0)])
        self.assertEqual(rows_of(("asmany", nothing, ANY), 1), [((-1, -1), 0)])

    def test_they_hold_together_just_where_the_saying_does(self):
        rng = seeded(6)
        for _ in range(1500):
            many = rng.randint(1, 4)
            saying = some_saying(rng, many, 4, rng.choice((3, 41)))
            world = some_world(rng, many, rng.choice((4, 40)))
            rows = rows_of(saying, many)
            told = [sum(x * y for x, y in zip(row[0], world)) >= row[1] for row in rows]
            self.assertEqual(all(told), is_true(saying, world), (saying, world))
            self.assertEqual(len(rows), 2 if saying[0] == "just" else 1)
            self.assertTrue(all(type(row) is tuple and type(row[0]) is tuple and len(row[0]) == len(world) for row in rows))

    def test_row_holds_at_its_least(self):
        row = ((2, -3, 0, 1), 4)
        for world, right in (((2, 0, 7, 0), True), ((2, 0, 7, 1), True), ((1, 0, 7, 1), False), ((5, 2, 0, 0), True),
                             ((4, 2, 9, 1), False), ((0, 0, 0, 0), False)):
            self.assertIs(row_holds(row, world), right, world)
            self.assertIs(row_holds([list(row[0]), row[1]], list(world)), right, world)
        for more, right in ((-1, True), (0, True), (1, False)):
            self.assertIs(row_holds(((1, 1), 40 + more), (39, 1)), right)
            self.assertIs(row_holds(((-1, -1), -40 + more), (40, 0)), right)

    def test_row_holds_where_least_is_0_or_below(self):
        self.assertIs(row_holds(((1, 1), 0), (0, 0)), True)
        self.assertIs(row_holds(((-1, -1), -1), (0, 1)), True)
        self.assertIs(row_holds(((-1, -1), -1), (1, 1)), False)


class BaseRowsTest(unittest.TestCase):
    def test_the_row_of_most_comes_first(self):
        self.assertEqual(base_rows(1, 0, []), [((-1, -1), 0)])
        self.assertEqual(base_rows(1, 40, []), [((-1, -1), -40)])
        self.assertEqual(base_rows(4, 7, []), [((-1,) * 16, -7)])

    def test_then_the_rows_of_each_saying_in_order(self):
        sayings = [("just", 2, A, B), ("some", A, B), ("just", 0, B, A), ("all", A, B)]
        self.assertEqual(base_rows(2, 9, sayings), [
            ((-1, -1, -1, -1), -9),
            ((0, 0, 0, 1), 2), ((0, 0, 0, -1), -2),
            ((0, 0, 0, 1), 1),
            ((0, 0, 0, 1), 0), ((0, 0, 0, -1), 0),
            ((0, -1, 0, 0), 0)])
        self.assertEqual(base_rows(2, 9, tuple(sayings)), base_rows(2, 9, sayings))

    def test_of_ten_sayings(self):
        rng = seeded(7)
        sayings = [some_saying(rng, 4, 8, 40) for _ in range(10)]
        rows = base_rows(4, 40, sayings)
        self.assertEqual(rows[0], ((-1,) * 16, -40))
        self.assertEqual(rows[1:], [row for saying in sayings for row in rows_of(saying, 4)])


class IsWorldTest(unittest.TestCase):
    def test_of_no_sayings(self):
        self.assertIs(is_world(1, 40, [], (0, 0)), True)
        self.assertIs(is_world(1, 0, [], (0, 0)), True)
        self.assertIs(is_world(1, 0, [], (0, 1)), False)
        self.assertIs(is_world(4, 40, [], (0,) * 16), True)

    def test_at_most_most_things(self):
        for counts, right in (((39, 0), True), ((39, 1), True), ((40, 1), False), ((0, 41), False)):
            self.assertIs(is_world(1, 40, [], counts), right)
        self.assertIs(is_world(4, 16, [], (1,) * 16), True)
        self.assertIs(is_world(4, 15, [], (1,) * 16), False)

    def test_each_saying_holds(self):
        sayings = [("some", A, B), ("most", 2, A, B), ("all", B, A)]
        self.assertIs(is_world(2, 40, sayings, (1, 1, 0, 2)), True)
        self.assertIs(is_world(2, 40, sayings, (1, 1, 0, 0)), False)
        self.assertIs(is_world(2, 40, sayings, (1, 1, 0, 3)), False)
        self.assertIs(is_world(2, 40, sayings, (1, 1, 1, 2)), False)

    def test_as_told_in_worlds_from_all_over(self):
        rng = seeded(8)
        told = {True: 0, False: 0}
        for _ in range(1500):
            many, most = rng.randint(1, 4), rng.randint(0, 40)
            sayings = [some_saying(rng, many) for _ in range(rng.randint(0, 3))]
            world = some_world(rng, many)
            right = sum(world) <= most and all(is_true(saying, world) for saying in sayings)
            self.assertIs(is_world(many, most, sayings, world), right)
            self.assertIs(is_world(many, most, tuple(sayings), list(world)), right)
            told[right] += 1
        self.assertGreater(min(told.values()), 100)

    def test_wrong_things(self):
        for wrong in ((), (0,), (0, 0, 0), (0, -1), (-1, 2), (True, 0), (0, False), (None, 0), ("0", 0), ((0,), 0), ([], 0),
                      "00", None, True, 0, [[0, 0]], ((0, 0),), [0, [0]], "ab", ("a", "b")):
            self.assertIs(is_world(1, 40, [], wrong), False, wrong)
            self.assertIs(is_world(1, 40, [("all", A, A)], wrong), False, wrong)

    def test_of_anything(self):
        for thing in ODD_THINGS:
            right = isinstance(thing, tuple) and len(thing) == 2 and all(type(x) is int for x in thing)
            self.assertIs(is_world(1, 40, [("all", A, A)], thing), right, thing)
            self.assertIs(is_world(1, 40, [], [thing, 0]), type(thing) is int and 0 <= thing <= 40, thing)


class DeepTermsTest(unittest.TestCase):
    def test_sayings_of_terms_eight_deep(self):
        rng = seeded(9)
        for _ in range(60):
            s, p = some_term(rng, 4, 8), full_term(8, 4)
            for saying in (("all", s, p), ("just", 3, p, s), ("under", 5, 7, s, p)):
                self.assertIs(is_saying(saying, 4), True)
                world = some_world(rng, 4)
                self.assertIs(holds(saying, world), is_true(saying, world))


if __name__ == "__main__":
    unittest.main()
