"""[17], [18]: texts of sayings and terms."""

import unittest

from somesay.errors import BadText
from somesay.sayings import is_saying
from somesay.terms import depth_of, is_term
from somesay.texts import saying_of, term_of, term_text, text_of
from tests.grammar import RESERVED, bad_term, bad_word
from tests.oracle import A, ANY, B, C, full_term, nots, sayings_of_each_kind, seeded, some_saying, some_term

NAMES = ["birds", "flying", "x", "any"]
WRITTEN = [
    (("all", A, B), "all birds are flying"),
    (("notall", A, B), "not all birds are flying"),
    (("some", A, B), "some birds are flying"),
    (("none", A, B), "no birds are flying"),
    (("least", 3, A, B), "at least 3 birds are flying"),
    (("most", 0, A, B), "at most 0 birds are flying"),
    (("just", 41, A, B), "exactly 41 birds are flying"),
    (("more", A, B), "more birds than flying"),
    (("asmany", A, B), "as many birds as flying"),
    (("share", 2, 3, A, B), "share 2 of 3 birds are flying"),
    (("under", 12, 12, A, B), "not share 12 of 12 birds are flying"),
    (("all", ANY, ("not", C)), "all things are not x"),
    (("notall", ("not", A), ("not", ANY)), "not all not birds are not things"),
    (("some", ("and", A, B), ("or", C, ("is", 3))), "some ( birds and flying ) are ( x or any )"),
    (("more", ("or", ("not", A), ("and", B, C)), ANY), "more ( not birds or ( flying and x ) ) than things"),
    (("asmany", ("not", ("and", A, A)), A), "as many not ( birds and birds ) as birds"),
    (("share", 0, 1, ANY, ANY), "share 0 of 1 things are things"),
]
TERMS = [(A, "birds"), (("is", 3), "any"), (ANY, "things"), (("not", ANY), "not things"), (("and", A, B), "( birds and flying )"),
         (("or", ("not", A), ("not", ("and", B, C))), "( not birds or not ( flying and x ) )")]


class Case(unittest.TestCase):
    def refused(self, text, names=NAMES, ask=saying_of):
        """The word at which the text is refused."""
        with self.assertRaises(BadText) as caught:
            ask(text, names)
        self.assertIs(type(caught.exception), BadText)
        self.assertIs(type(caught.exception.word), int)
        return caught.exception.word


class WrittenTest(Case):
    def test_each_form(self):
        for saying, text in WRITTEN:
            self.assertEqual(text_of(saying, NAMES), text)
            self.assertEqual(saying_of(text, NAMES), saying)

    def test_terms(self):
        for term, text in TERMS:
            self.assertEqual(term_text(term, NAMES), text)
            self.assertEqual(term_of(text, NAMES), term)
            self.assertEqual(text_of(("all", term, term), NAMES), f"all {text} are {text}")

    def test_names_of_all_sorts(self):
        for names in (["a", "b"], ["abcdefgh", "abcdefg"], ["alls", "ar"], ["is", "notall"], ["none", "just"], ["b", "a"]):
            for saying in sayings_of_each_kind():
                text = text_of(saying, names)
                self.assertEqual(saying_of(text, names), saying)
                self.assertEqual(saying_of(text, tuple(names)), saying)
                self.assertEqual(text_of(saying, tuple(names)), text)

    def test_a_name_of_one_class_is_none_of_another(self):
        self.assertEqual(saying_of("all a are b", ["b", "a"]), ("all", B, A))
        self.assertEqual(self.refused("all a are b", ["a"]), 3)
        self.assertEqual(self.refused("all a are ab", ["a", "b"]), 3)

    def test_there_and_back(self):
        rng = seeded(111)
        seen = {}
        for _ in range(600):
            many = rng.randint(1, 4)
            saying = some_saying(rng, many, rng.choice((1, 3, 8)), 41)
            text = text_of(saying, NAMES[:many])
            told = saying_of(text, NAMES[:many])
            self.assertEqual(told, saying)
            self.assertIs(is_saying(told, many), True)
            self.assertEqual(seen.setdefault(text, saying), saying)
            term = some_term(rng, many, rng.choice((1, 3, 8)))
            self.assertEqual(term_of(term_text(term, NAMES[:many]), NAMES[:many]), term)

    def test_numbers_at_their_bounds(self):
        for n in (0, 1, 9, 10, 40, 41):
            for opening, kind in (("at least", "least"), ("at most", "most"), ("exactly", "just")):
                text = f"{opening} {n} x are x"
                self.assertEqual(saying_of(text, NAMES), (kind, n, C, C))
                self.assertEqual(text_of((kind, n, C, C), NAMES), text)
        for bottom in range(1, 13):
            for top in range(bottom + 1):
                for opening, kind in (("share", "share"), ("not share", "under")):
                    text = f"{opening} {top} of {bottom} x are x"
                    self.assertEqual(saying_of(text, NAMES), (kind, top, bottom, C, C))
                    self.assertEqual(text_of((kind, top, bottom, C, C), NAMES), text)

    def test_eight_deep(self):
        for term in (nots(A, 7), full_term(8, 4), nots(("and", A, nots(B, 6)), 0), ("or", nots(A, 6), nots(B, 6))):
            self.assertEqual(depth_of(term), 8)
            for saying in (("all", term, A), ("more", A, term), ("under", 1, 2, term, term)):
                self.assertEqual(saying_of(text_of(saying, NAMES), NAMES), saying)

    def test_telling_changes_no_names(self):
        names = list(NAMES)
        for saying, text in WRITTEN:
            saying_of(text, names)
            text_of(saying, names)
        self.refused("all birds", names)
        self.assertEqual(names, NAMES)


class RefusedTest(Case):
    def test_the_empty_text(self):
        self.assertEqual(self.refused(""), 0)

    def test_more_would_have_to_come(self):
        for _, text in WRITTEN:
            words = text.split(" ")
            for size in range(1, len(words)):
                self.assertEqual(self.refused(" ".join(words[:size])), size, words[:size])

    def test_two_blanks(self):
        for _, text in WRITTEN:
            words = text.split(" ")
            for at in range(len(words) + 1):
                self.assertEqual(self.refused(" ".join(words[:at] + [""] + words[at:])), at, words)
        self.assertEqual(self.refused(" "), 0)
        self.assertEqual(self.refused("all  birds are flying"), 1)
        self.assertEqual(self.refused(" all birds are flying"), 0)
        self.assertEqual(self.refused("all birds are flying "), 4)
        self.assertEqual(self.refused("all birds are "), 3)

    def test_what_stands_behind(self):
        for _, text in WRITTEN:
            for more in ("x", "are", ")", "and x", "all birds are flying", "0"):
                self.assertEqual(self.refused(f"{text} {more}"), len(text.split(" ")), text)

    def test_numbers_beyond_their_bounds(self):
        for word in ("42", "43", "99", "100", "410", "0" * 50, "9" * 6000, "-1", "-0", "+1", "007", "00", "01", "1.0", "1e1", "4_1", "x",
                     "", "\u0663", "\u00b2", "1\n", "\t1", "one", "0x1"):
            for opening, at in (("at least", 2), ("at most", 2), ("exactly", 1)):
                self.assertEqual(self.refused(f"{opening} {word} x are x"), at, word[:9])
                self.assertEqual(self.refused(f"{opening} {word}"), at, word[:9])

    def test_only_figures_make_a_number(self):
        for code in range(33, 127):
            for word in (chr(code), "1" + chr(code), chr(code) + "1"):
                if not word.isdigit():
                    self.assertEqual(self.refused(f"exactly {word} x are x"), 1, word)

    def test_shares_beyond_their_bounds(self):
        for opening, at in (("share", 1), ("not share", 2)):
            for top in ("13", "14", "120", "-1", "007", "00", "01", "", "x", "9" * 5000, "\u0661"):
                self.assertEqual(self.refused(f"{opening} {top} of 12 x are x"), at)
                self.assertEqual(self.refused(f"{opening} {top} of 0 x are x"), at)
            for top, bottom in ((0, 0), (0, 13), (1, 0), (1, 13), (2, 1), (12, 11), (12, 13), (5, 4), (12, 1), (3, "03"), (1, "9" * 5000),
                                (1, "-1"), (1, ""), (1, "x"), (1, "1.")):
                self.assertEqual(self.refused(f"{opening} {top} of {bottom} x are x"), at + 2, (top, bottom))
            self.assertEqual(self.refused(f"{opening} 1 in 2 x are x"), at + 1)
            self.assertEqual(self.refused(f"{opening} 12 of 12 are x"), at + 3)

    def test_the_eighth_opener(self):
        for opener in ("not", "("):
            for ahead in (["not"] * 7, ["("] * 7, ["not", "("] * 3 + ["not"], ["("] + ["not"] * 6):
                inner = " ".join(ahead)
                for text, at in ((f"all {inner} {opener} x are x", 8), (f"more x than {inner} {opener} x", 10),
                                 (f"at least 3 {inner} {opener}", 10), (f"not all {inner} {opener}", 9)):
                    self.assertEqual(self.refused(text), at, text)
                    self.assertEqual(bad_word(text, NAMES), at)

    def test_openers_beside_one_another_are_not_within(self):
        seven = " ".join(["not"] * 6)
        text = f"all ( {seven} x and {seven} x ) are ( {seven} x or x )"
        self.assertEqual(saying_of(text, NAMES), ("all", ("and", nots(C, 6), nots(C, 6)), ("or", nots(C, 6), C)))
        self.assertEqual(self.refused(f"all ( {seven} x and {seven} not x ) are x"), 16)
        self.assertEqual(self.refused(f"all ( x and {seven} ( x"), 10)
        # The not of a saying is no opener of a term.
        self.assertEqual(saying_of("not all " + seven + " not x are x", NAMES), ("notall", nots(C, 7), C))

    def test_wrong_words(self):
        for text, at in (("every x are x", 0), ("All x are x", 0), ("x are x", 0), ("things", 0), ("not some x are x", 1), ("not x", 1),
                         ("at x", 1), ("at 3 x are x", 1), ("at many x are x", 1), ("as x", 1), ("as most 1 x are x", 1), ("all are x", 1),
                         ("all x x", 2), ("all x than x", 2), ("more x are x", 2), ("more x as x", 2), ("as many x are x", 3),
                         ("as many x than x", 3), ("as many x as as", 4), ("all ( x ) are x", 3), ("all ( x and x are x", 5),
                         ("all ( x and x or x ) are x", 5), ("all ( x are x", 3), ("all x and x are x", 2), ("all not are x", 2),
                         ("all ) are x", 1), ("all x are )", 3), ("all y are x", 1), ("all X are x", 1), ("all x, are x", 1),
                         ("all x are x.", 3), ("all\tx are x", 0), ("all x are x\n", 3), ("all\nx are x", 0), ("all 3 x are x", 1),
                         ("some (x and x) are x", 1), ("no not", 2), ("share x of x", 1), ("share of 3", 1), ("exactly x are x", 1)):
            self.assertEqual(self.refused(text), at, text)
            self.assertEqual(bad_word(text, NAMES), at, text)

    def test_reserved_words_are_no_names(self):
        for word in RESERVED + ["and", "or", ")", "of"]:
            if word not in ("not", "things"):
                self.assertEqual(self.refused(f"all {word} are x"), 1, word)
                self.assertEqual(self.refused(f"all x are {word}"), 3, word)

    def test_terms_alone(self):
        for text, at in (("", 0), ("y", 0), ("x x", 1), ("not", 1), ("( x and x", 4), ("( x and x ) x", 5), (" x", 0), ("x ", 1),
                         ("are", 0), ("not " * 8 + "x", 7), ("( " * 8, 7)):
            self.assertEqual(self.refused(text, NAMES, term_of), at, text)
        self.assertEqual(term_of("not " * 7 + "x", NAMES), nots(C, 7))

    def test_refusing_says_so_in_words(self):
        with self.assertRaises(BadText) as caught:
            saying_of("all x", NAMES)
        self.assertGreater(len(str(caught.exception)), 0)


def spoilt(rng, words, names):
    """The words with some of them left out, changed, doubled or put in."""
    pool = RESERVED + list(names) + ["(", ")", "(", "not", "not", "", "0", "3", "12", "13", "41", "42", "007", "y", "All"]
    found = list(words)
    for _ in range(rng.choice((1, 1, 1, 2, 3))):
        at = rng.randrange(len(found) + 1)
        kind = rng.choice(("out", "other", "in", "cut", "twice"))
        if kind == "in":
            found.insert(at, rng.choice(pool))
        elif kind == "cut":
            del found[at:]
        elif at < len(found):
            found[at:at + 1] = {"out": [], "other": [rng.choice(pool)], "twice": [found[at]] * 2}[kind]
    return found


class DrawnTest(Case):
    def test_as_the_grammar_tells(self):
        rng = seeded(112)
        seen = {}
        for _ in range(2500):
            many = rng.randint(1, 4)
            names = NAMES[:many]
            words = text_of(some_saying(rng, many, rng.choice((1, 2, 3, 8)), 41), names).split(" ")
            text = " ".join(spoilt(rng, words, names))
            wanted = bad_word(text, names)
            if wanted is None:
                self.assertEqual(text_of(saying_of(text, names), names), text)
                self.assertIs(is_saying(saying_of(text, names), many), True)
            else:
                self.assertEqual(self.refused(text, names), wanted, text)
            seen[wanted] = seen.get(wanted, 0) + 1
        self.assertGreater(min(seen.get(at, 0) for at in (None, 0, 1, 2, 3, 4, 5, 6, 7)), 20)

    def test_words_in_any_order(self):
        rng = seeded(113)
        for _ in range(1500):
            begun = rng.choice((["all"], ["not", "share", "3", "of"], ["as", "many"], ["at", "least"], ["more", "("], ["not"] * 2))
            rest = [rng.choice(["(", ")", "not", "x", "and", "or", "are", "as", "than", "things", "4", "12"]) for _ in range(9)]
            text = " ".join(begun + rest)
            wanted = bad_word(text, NAMES)
            if wanted is None:
                self.assertEqual(text_of(saying_of(text, NAMES), NAMES), text)
            else:
                self.assertEqual(self.refused(text), wanted, text)

    def test_terms_as_the_grammar_tells(self):
        rng = seeded(114)
        for _ in range(800):
            words = term_text(some_term(rng, 4, rng.choice((1, 3, 8))), NAMES).split(" ")
            text = " ".join(spoilt(rng, words, NAMES))
            wanted = bad_term(text, NAMES)
            if wanted is None:
                told = term_of(text, NAMES)
                self.assertIs(is_term(told, 4), True)
                self.assertEqual(term_text(told, NAMES), text)
            else:
                self.assertEqual(self.refused(text, NAMES, term_of), wanted, text)


if __name__ == "__main__":
    unittest.main()
