"""[22]: papers as texts."""

import time
import unittest

from somesay.errors import BadRow
from somesay.finding import world_of, world_or_paper
from somesay.papers import shows_paper
from somesay.papertexts import paper_in, paper_text
from somesay.sayings import base_rows
from somesay.words import number_in, number_text
from tests.oracle import BY_FRACTIONS, both_ways, rows_near, seeded

PAPER = [("cases", (3, 0), -2, 1, 2), ("whole", [0, 12, 0], 7, 3), ("sum", [0]), ("sum", [1, 0, 20, 3])]
TEXT = "cases 3 0 at -2 then 1 or 2\nwhole 0 12 0 by 7 then 3\nsum 0\nsum 1 0 20 3"
LONG = 10 ** 999
LONGEST = 10 ** 1000 - 1
WRONG_ROWS = [
    "", " ", "x", "sum", "sum ", "sum  1", "sum 1 ", " sum 1", "Sum 1", "sums 1", "sum x", "sum 1 x", "sum -1", "sum 1 -1", "sum -0", "sum 0 -0",
    "sum 01", "sum 00", "sum 007", "sum +1", "sum 1.0", "sum 1,2", "sum 1e3", "sum 1_0", "sum (1)", "sum 1 by 2", "sum 1 by 2 then 3",
    "sum 1 at 0 then 1 or 2", "sum\t1", "sum 1\r", "sum \u0661", "sum \u00b2", "sum --1", "sum -", "sum 1  2", "sum1", "1", "sum sum 1",
    "whole", "whole 1", "whole 1 2", "whole by 1 then 1", "whole 1 by 1", "whole 1 by 1 then", "whole 1 by then 1", "whole 1 then 1 by 1",
    "whole 1 by 0 then 1", "whole 1 by -1 then 1", "whole 1 by -0 then 1", "whole 1 by 01 then 1", "whole 1 by 1 then -1", "whole 1 by 1 then 01",
    "whole 1 by 1 then -0", "whole -1 by 1 then 1", "whole 1 -0 by 1 then 1", "whole 1 by 1 then 1 ", "whole 1 by 1 then 1 1", "whole  1 by 1 then 1",
    "whole 1  by 1 then 1", "whole 1 by  1 then 1", "whole 1 by 1 or 1", "whole 1 at 1 then 1", "whole 1 by 1 then x", "whole x by 1 then 1",
    "whole 1 by x then 1", "whole 1 by 1 then 1 or 2", "whole 1 by 1 by 1 then 1", "whole 1 by 1 then 1 then 1", "whole -0 by 1 then 1", "whole ",
    "cases", "cases 1", "cases at 0 then 1 or 2", "cases 1 at 0 then 1", "cases 1 at 0 then 1 or", "cases 1 at then 1 or 2", "cases 1 then 1 or 2",
    "cases 1 at 0 or 1 then 2", "cases 1 at 0 then 1 or 2 ", "cases 1 at 0 then 1 or 2 3", "cases 1 at -0 then 1 or 2", "cases 1 at 00 then 1 or 2",
    "cases 1 at -01 then 1 or 2", "cases 1 at +1 then 1 or 2", "cases -1 at 0 then 1 or 2", "cases -0 at 0 then 1 or 2", "cases 01 at 0 then 1 or 2",
    "cases 1 at 0 then -1 or 2", "cases 1 at 0 then 1 or -1", "cases 1 at 0 then 01 or 2", "cases 1 at 0 then 1 or 02", "cases 1 at x then 1 or 2",
    "cases 1 at 0 then x or 2", "cases 1 at 0 then 1 or x", "cases 1 at 0 then 1 and 2", "cases 1 by 0 then 1 or 2", "cases  1 at 0 then 1 or 2",
    "cases 1 at  0 then 1 or 2", "cases 1 at 0 then 1 or  2", "cases 1 at - 1 then 1 or 2", "cases 1 at 0 then 1 or 2 or 3", "cases x at 0 then 1 or 2",
]


class Case(unittest.TestCase):
    def refused(self, text):
        """The row at which the text is refused."""
        with self.assertRaises(BadRow) as caught:
            paper_in(text)
        self.assertIs(type(caught.exception), BadRow)
        self.assertIs(type(caught.exception.row), int)
        return caught.exception.row

    def there_and_back(self, paper):
        before = time.perf_counter()
        text = paper_text(paper)
        self.assertEqual(paper_in(text), paper)
        self.assertEqual(paper_text(paper_in(text)), text)
        self.assertLess(time.perf_counter() - before, 20)
        return text


class WrittenTest(Case):
    def test_each_kind_of_step(self):
        self.assertEqual(paper_text(PAPER), TEXT)
        self.assertEqual(paper_in(TEXT), PAPER)
        self.assertEqual(paper_text([("sum", [1, 1])]), "sum 1 1")

    def test_kinds_of_what_is_told(self):
        told = paper_in(TEXT)
        self.assertIs(type(told), list)
        self.assertEqual([type(step) for step in told], [tuple] * 4)
        self.assertEqual([type(step[1]) for step in told], [tuple, list, list, list])
        self.assertEqual({type(number) for step in told for number in step[1]}, {int})
        self.assertIs(type(paper_text(PAPER)), str)

    def test_lists_and_tuples(self):
        lists = [[list(part) if isinstance(part, (list, tuple)) else part for part in step] for step in PAPER]
        tuples = tuple(tuple(tuple(part) if isinstance(part, list) else part for part in step) for step in PAPER)
        self.assertEqual(paper_text(lists), TEXT)
        self.assertEqual(paper_text(tuples), TEXT)

    def test_numbers_below_0_and_0(self):
        for n in (0, -1, 1, -10, 10, -LONG, LONG, -LONGEST, LONGEST):
            text = self.there_and_back([("cases", (0,), n, 0, 0)])
            self.assertEqual(text.split(" ")[3].startswith("-"), n < 0)

    def test_numbers_of_a_thousand_figures(self):
        paper = [("sum", [0, LONG, LONGEST, 3]), ("whole", [LONGEST], LONG, LONGEST), ("cases", (LONG, 0, LONGEST), -LONGEST, LONG, 0)]
        text = self.there_and_back(paper)
        for number in (LONG, LONGEST):
            self.assertEqual(len(str(number)), 1000)
            self.assertIn(f" {number} ", text)
        self.assertIn(f"at -{LONGEST} then", text)

    def test_numbers_of_any_size(self):
        # Papers for rows of one's own may be of long numbers: what was told may be handed in again.
        for size in (1, 63, 64, 65, 127, 128, 129, 1001, 4299, 4300, 4301, 9000):
            for number in (10 ** size, 10 ** size - 1, 7 * 10 ** size + 5, 10 ** size + 10 ** (size // 2)):
                text = number_text(number)
                self.assertEqual(len(text), size if number == 10 ** size - 1 else size + 1)
                self.assertEqual(number_in(text), number)
                self.assertEqual(number_in(number_text(-number)), -number)
                if size < 4000:
                    self.assertEqual((text, number_text(-number)), (str(number), str(-number)))
        self.there_and_back([("sum", [10 ** 6000, 0]), ("cases", (0,), -10 ** 5000, 1, 2)])

    def test_a_nought_ahead_in_long_numbers(self):
        for size in (2, 64, 65, 128, 1000):
            self.assertEqual(self.refused("sum 1\nsum " + "0" * size), 1)
            self.assertEqual(self.refused("sum 1\nsum 0" + "1" * size), 1)
            self.assertEqual(self.refused("sum 1\ncases 1 at -0" + "1" * size + " then 1 or 2"), 1)

    def test_whether_it_is_a_paper_is_not_looked_at(self):
        for paper in ([("sum", [0])], [("whole", [0], 1, 0)], [("cases", (5, 5, 99), 3, 0, 0)], [("sum", [1]), ("sum", [1])],
                      [("whole", [1, 2, 3], 5, 77)], [("cases", (0,), 1, 9, 4)]):
            self.there_and_back(paper)

    def test_told_papers(self):
        rng = seeded(141)
        kinds = set()
        for many, most, sayings in BY_FRACTIONS:
            paper = world_of(many, most, sayings)[1]
            self.there_and_back(paper)
            self.assertIs(shows_paper(base_rows(many, most, sayings), paper_in(paper_text(paper))), True)
        for _ in range(60):
            rows = rows_near(rng, 6, 8, 9, 15)
            rows = rows[:1] + both_ways(rows[1:4]) + rows[4:]
            kind, found = world_or_paper(rows, [])
            if kind == "none":
                self.there_and_back(found)
                self.assertIs(shows_paper(rows, paper_in(paper_text(found))), True)
                kinds |= {step[0] for step in found}
        self.assertIn("whole", kinds)

    def test_drawn_steps(self):
        rng = seeded(142)
        for _ in range(200):
            paper = []
            for _ in range(rng.randint(1, 6)):
                numbers = [rng.choice((0, 1, rng.randrange(50), rng.randrange(10 ** 80))) for _ in range(rng.randint(1, 9))]
                behind = [rng.randrange(40) for _ in range(2)]
                paper.append(rng.choice((("sum", numbers), ("whole", numbers, rng.randint(1, 10 ** 30), behind[0]),
                                         ("cases", tuple(numbers), rng.randint(-50, 50), *behind))))
            self.there_and_back(paper)


class RefusedTest(Case):
    def test_the_empty_text(self):
        self.assertEqual(self.refused(""), 0)

    def test_empty_rows(self):
        self.assertEqual(self.refused("\n"), 0)
        self.assertEqual(self.refused("\nsum 1"), 0)
        self.assertEqual(self.refused("sum 1\n"), 1)
        self.assertEqual(self.refused("sum 1\n\nsum 1"), 1)
        self.assertEqual(self.refused(TEXT + "\n"), 4)

    def test_wrong_rows(self):
        for row in WRONG_ROWS:
            self.assertEqual(self.refused(row), 0, row)
            self.assertEqual(self.refused(TEXT + "\n" + row), 4, row)
            self.assertEqual(self.refused("sum 1\n" + row + "\nx\n" + TEXT), 1, row)

    def test_only_figures_make_a_number(self):
        for code in range(33, 127):
            for word in (chr(code), "1" + chr(code), chr(code) + "1"):
                if not word.isdigit():
                    self.assertEqual(self.refused(f"sum {word}"), 0, word)
                    self.assertEqual(self.refused(f"sum 2 {word}"), 0, word)

    def test_other_line_ends(self):
        for end in ("\r\n", "\r", "\x0b", "\x0c", "\x85", "\u2028"):
            self.assertEqual(self.refused(TEXT.replace("\n", end)), 0)
            self.assertEqual(self.refused("sum 1\nsum 1" + end + "sum 1"), 1)

    def test_the_least_that_is_right(self):
        for row, step in (("sum 0", ("sum", [0])), ("whole 0 by 1 then 0", ("whole", [0], 1, 0)),
                          ("cases 0 at -1 then 0 or 0", ("cases", (0,), -1, 0, 0))):
            self.assertEqual(paper_in(row), [step])
            self.assertEqual(paper_in(row + "\n" + row), [step, step])

    def test_refusing_says_so_in_words(self):
        with self.assertRaises(BadRow) as caught:
            paper_in("x")
        self.assertGreater(len(str(caught.exception)), 0)


if __name__ == "__main__":
    unittest.main()
