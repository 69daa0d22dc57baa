"""[3]: terms."""

import unittest

from somesay.terms import cells_of, classes_in, depth_of, is_term
from tests.oracle import A, ANY, B, C, D, ODD_THINGS, cells, full_term, nots, seeded, some_term


class IsTermTest(unittest.TestCase):
    def test_each_kind(self):
        for term in (A, B, ANY, ("not", A), ("and", A, B), ("or", ANY, ("not", B))):
            self.assertIs(is_term(term, 2), True, term)

    def test_class_numbers_are_below_many(self):
        for many in (1, 2, 3, 4):
            for k in range(-2, 6):
                self.assertIs(is_term(("is", k), many), 0 <= k < many, (k, many))
                self.assertIs(is_term(("or", ANY, ("not", ("is", k))), many), 0 <= k < many, (k, many))

    def test_at_most_eight_deep(self):
        for inner in (A, ANY):
            for times in range(10):
                self.assertIs(is_term(nots(inner, times), 1), times <= 7, times)
        for deep in range(1, 11):
            self.assertIs(is_term(full_term(deep, 4), 4), deep <= 8, deep)
            for pair in ((nots(A, deep - 1), B), (B, nots(A, deep - 1))):
                self.assertIs(is_term(("and",) + pair, 2), deep <= 7, deep)
                self.assertIs(is_term(("or",) + pair, 2), deep <= 7, deep)

    def test_a_part_more_or_fewer(self):
        for wrong in (("is",), ("is", 0, 0), ("any", 0), ("any", A), ("any", None), ("not",), ("not", A, A),
                      ("and",), ("and", A), ("and", A, A, A), ("or", A), ("or", A, A, A), ()):
            self.assertIs(is_term(wrong, 4), False, wrong)

    def test_another_word(self):
        for wrong in (("Is", 0), ("isn't", 0), ("", 0), ("ANY",), ("",), ("nor", A, A), ("no", A), ("xor", A, B),
                      ("not ", A), ("all", A, B), (0, A), (None, A), (True, A), (("not",), A), (["not"], A)):
            self.assertIs(is_term(wrong, 4), False, wrong)

    def test_what_is_no_number(self):
        for k in (True, False, None, "0", "", (0,), [0], (), [], A):
            self.assertIs(is_term(("is", k), 4), False, k)
            self.assertIs(is_term(("not", ("is", k)), 4), False, k)

    def test_a_list_is_no_term(self):
        for wrong in (["is", 0], ["any"], ["not", A], ("not", ["is", 0]), ("not", ["any"]), ["and", A, B],
                      ("and", A, ["is", 1]), ("and", ["is", 0], B), ("or", ["any"], B), ("or", B, ["not", A])):
            self.assertIs(is_term(wrong, 4), False, wrong)

    def test_of_anything(self):
        for thing in ODD_THINGS:
            for held in (thing, ("not", thing), ("and", A, thing), ("or", thing, A), ("is", thing), (thing, A), (thing,)):
                right = held in (("is", 0), ("is", 1)) and type(held[1]) is int or held == ("any",)
                self.assertIs(is_term(held, 2), right, held)


class CellsTest(unittest.TestCase):
    def test_of_one_class(self):
        self.assertEqual(cells_of(A, 1), (1,))
        self.assertEqual(cells_of(ANY, 1), (0, 1))
        self.assertEqual(cells_of(("not", A), 1), (0,))
        self.assertEqual(cells_of(("not", ANY), 1), ())

    def test_of_two_classes(self):
        self.assertEqual(cells_of(A, 2), (1, 3))
        self.assertEqual(cells_of(B, 2), (2, 3))
        self.assertEqual(cells_of(("and", A, B), 2), (3,))
        self.assertEqual(cells_of(("or", A, B), 2), (1, 2, 3))
        self.assertEqual(cells_of(("and", A, ("not", B)), 2), (1,))
        self.assertEqual(cells_of(("and", B, ("not", A)), 2), (2,))

    def test_of_four_classes(self):
        self.assertEqual(cells_of(A, 4), (1, 3, 5, 7, 9, 11, 13, 15))
        self.assertEqual(cells_of(C, 4), (4, 5, 6, 7, 12, 13, 14, 15))
        self.assertEqual(cells_of(D, 4), (8, 9, 10, 11, 12, 13, 14, 15))
        self.assertEqual(cells_of(ANY, 4), tuple(range(16)))
        self.assertEqual(cells_of(("and", ("and", A, B), ("and", C, D)), 4), (15,))
        self.assertEqual(cells_of(("or", ("or", A, B), ("or", C, D)), 4), tuple(range(1, 16)))

    def test_as_told_for_terms_from_all_over(self):
        rng = seeded(3)
        for _ in range(400):
            many = rng.randint(1, 4)
            term = some_term(rng, many, rng.randint(1, 8))
            found = cells_of(term, many)
            self.assertIs(type(found), tuple)
            self.assertEqual(found, tuple(sorted(cells(term, many))), term)

    def test_eight_deep(self):
        self.assertEqual(cells_of(nots(A, 7), 1), (0,))
        self.assertEqual(cells_of(full_term(8, 4), 4), tuple(sorted(cells(full_term(8, 4), 4))))


class DepthTest(unittest.TestCase):
    def test_one_deep(self):
        self.assertEqual(depth_of(ANY), 1)
        self.assertEqual([depth_of(("is", k)) for k in range(4)], [1, 1, 1, 1])

    def test_one_deeper_than_the_deepest_within(self):
        self.assertEqual(depth_of(("not", A)), 2)
        for kind in ("and", "or"):
            self.assertEqual(depth_of((kind, A, ANY)), 2)
            self.assertEqual(depth_of((kind, nots(A, 2), B)), 4)
            self.assertEqual(depth_of((kind, B, nots(A, 2))), 4)
            self.assertEqual(depth_of(("not", (kind, nots(A, 1), nots(ANY, 4)))), 7)

    def test_up_to_nine(self):
        for deep in range(1, 10):
            self.assertEqual(depth_of(nots(A, deep - 1)), deep)
            self.assertEqual(depth_of(full_term(deep, 4)), deep)


class ClassesTest(unittest.TestCase):
    def test_rising_and_each_once(self):
        self.assertEqual(classes_in(ANY), [])
        self.assertEqual(classes_in(("not", ANY)), [])
        self.assertEqual(classes_in(D), [3])
        self.assertEqual(classes_in(("and", D, A)), [0, 3])
        self.assertEqual(classes_in(("or", ("not", C), ("and", B, C))), [1, 2])
        self.assertEqual(classes_in(("or", ("and", D, C), ("and", B, ("or", A, D)))), [0, 1, 2, 3])

    def test_a_named_class_counts_even_if_it_makes_no_difference(self):
        self.assertEqual(classes_in(("or", B, ("not", B))), [1])

    def test_of_classes_in_any_order(self):
        rng = seeded(4)
        for _ in range(200):
            term = some_term(rng, 4, 6)
            named = {k for k in range(4) if f"('is', {k})" in repr(term)}
            self.assertEqual(classes_in(term), sorted(named))
            self.assertIs(type(classes_in(term)), list)


if __name__ == "__main__":
    unittest.main()
