"""[19], [20]: sheets."""

import time
import unittest

from somesay.errors import BadRow, BadText, SayError
from somesay.following import follows
from somesay.least import greatest_count, least_count
from somesay.sayings import is_world
from somesay.sheet import run
from somesay.talk import Talk
from somesay.texts import saying_of, term_text, text_of
from tests.grammar import RESERVED
from tests.oracle import is_true, sayings_near, seeded, some_saying, some_term, worlds_of

SLOWEST = 30
HEAD = "classes 40 a b c"
NAMES = ["a", "b", "c"]
SIGNS = [chr(code) for code in range(32, 127) if code != 37]


def sheet(*rows):
    return "\n".join(rows)


def counts_in(text):
    return tuple(int(word) for word in text.split(" "))


class Case(unittest.TestCase):
    def refused(self, text):
        """The row at which the text is refused."""
        with self.assertRaises(BadRow) as caught:
            run(text)
        self.assertIs(type(caught.exception), BadRow)
        self.assertIs(type(caught.exception.row), int)
        return caught.exception.row


class AnswersTest(Case):
    def test_the_head_alone(self):
        self.assertEqual(run(HEAD), [])
        self.assertEqual(run("\n\n" + HEAD + "\n\n"), [])

    def test_say_and_back(self):
        told = run(sheet(HEAD, "say one all a are b", "say two all b are c", "say known all a are c", "say some some a are a",
                         "say one all c are a", "say no no a are c", "say late all a are a", "back five", "back late", "back one",
                         "back known", "say one no a are b", "back no", "back no"))
        self.assertEqual(told, ["open", "open", "yes", "open", "refused Taken", "no", "clash", "refused NoLabel", "still", "still",
                                "free", "yes", "still", "refused NoLabel"])

    def test_refused_with_too_many(self):
        labels = [letter * 8 for letter in "abcdefghij"]
        told = run(sheet(HEAD, *[f"say {label} all a are a" for label in labels], "say x all a are a", f"say {labels[3]} all a are a",
                         "labels", "back " + labels[3], "say x some a are b", "labels"))
        self.assertEqual(told[:10], ["yes"] * 10)
        self.assertEqual(told[10:12], ["refused TooMany", "refused Taken"])
        self.assertEqual(told[12], " ".join(labels))
        self.assertEqual(told[13:15], ["still", "open"])
        self.assertEqual(told[15].split(" "), labels[:3] + labels[4:] + ["x"])

    def test_follows(self):
        told = run(sheet(HEAD, "say one all a are b", "follows all a are b", "follows all b are a", "follows some a are a"))
        self.assertEqual(told[:2], ["open", "yes"])
        for text, saying in zip(told[2:], ("all b are a", "some a are a")):
            self.assertTrue(text.startswith("no "))
            world = counts_in(text[3:])
            self.assertIs(is_world(3, 40, [("all", ("is", 0), ("is", 1))], world), True)
            self.assertFalse(is_true(saying_of(saying, NAMES), world))

    def test_settled(self):
        told = run(sheet(HEAD, "say one all a are b", "say two some a are a", "settled some b are a", "settled no b are a",
                         "settled all b are a", "say three no b are a", "settled all b are a", "labels"))
        self.assertEqual(told, ["open", "open", "yes", "no", "open", "no", "clash", "one two three"])

    def test_why(self):
        told = run(sheet(HEAD, "say one all a are b", "say else some c are c", "say two some a are a", "why some b are a",
                         "why all a are a", "why all b are a", "why some a are things", "back one", "say one all a are b",
                         "why some b are a"))
        self.assertEqual(told[3:], ["by one two", "by", "no", "by two", "still", "open", "by two one"])

    def test_world_fewest_clash_and_labels(self):
        told = run(sheet(HEAD, "world", "fewest", "clash", "labels", "say one at least 3 a are b", "say two more c than a", "world",
                         "fewest", "clash", "labels", "say three no c are things", "world", "fewest", "clash", "labels", "back one",
                         "clash", "back three", "clash"))
        self.assertIs(is_world(3, 40, [], counts_in(told[0])), True)
        self.assertEqual(told[1:4], ["0", "none", "-"])
        sayings = [saying_of(text, NAMES) for text in ("at least 3 a are b", "more c than a")]
        self.assertIs(is_world(3, 40, sayings, counts_in(told[6])), True)
        self.assertEqual(told[7:10], ["4", "none", "one two"])
        # Without the first one there is still more of c than none.
        self.assertEqual(told[10:], ["no", "none", "none", "by two three", "one two three", "still", "by two three", "free", "none"])

    def test_a_single_one_clashes_by_itself(self):
        self.assertEqual(run(sheet(HEAD, "say x more a than a", "clash", "world", "fewest", "count a", "why some a are b")),
                         ["no", "by x", "none", "none", "none", "by x"])

    def test_count(self):
        told = run(sheet(HEAD, "count a", "count things", "count not things", "say one at least 3 a are b", "say two at most 7 a are things",
                         "count a", "count ( a and b )", "count ( a and not b )", "count not a", "say three at least 8 a are a", "count a"))
        self.assertEqual(told[:3], ["0 40", "0 40", "0 0"])
        self.assertEqual(told[5:9], ["3 7", "3 7", "0 4", "0 37"])
        self.assertEqual(told[10], "none")

    def test_what_follows_where_they_clash(self):
        told = run(sheet(HEAD, "say x more a than a", "follows some a are b", "settled some a are b"))
        self.assertEqual(told[1:], ["yes", "clash"])

    def test_no_things(self):
        told = run(sheet("classes 0 a", "world", "fewest", "count things", "follows no a are a", "follows some a are a", "say x some a are a"))
        self.assertEqual(told, ["0 0", "0", "0 0", "yes", "no 0 0", "no"])

    def test_one_to_four_classes(self):
        for many in (1, 2, 3, 4):
            names = ["a", "birds", "cats", "abcdefgh"][:many]
            told = run(sheet("classes 40 " + " ".join(names), f"say x exactly 7 {names[-1]} are {names[0]}", "world"))
            self.assertEqual(len(counts_in(told[1])), 2 ** many)
            self.assertEqual(sum(counts_in(told[1])[2 ** many - 1:]), sum(counts_in(told[1])[-1:]))
            self.assertIs(is_world(many, 40, [("just", 7, ("is", many - 1), ("is", 0))], counts_in(told[1])), True)

    def test_labels_may_be_any_small_letters(self):
        for label in RESERVED + ["a", "say", "world", "abcdefgh"]:
            self.assertEqual(run(sheet(HEAD, f"say {label} all a are a", "labels", f"back {label}", "labels")),
                             ["yes", label, "still", "-"])

    def test_empty_rows_are_passed_over(self):
        told = run(sheet("", "", HEAD, "", "labels", "", "", "say x all a are b", "", "labels", ""))
        self.assertEqual(told, ["-", "open", "x"])

    def test_what_is_told_is_a_new_list_of_texts(self):
        text = sheet(HEAD, "say x all a are b", "world", "labels", "count a")
        first = run(text)
        self.assertIs(type(first), list)
        self.assertEqual([type(answer) for answer in first], [str] * 4)
        kept = list(first)
        first.append("spoilt")
        self.assertEqual(run(text), kept)


class RefusedTest(Case):
    def test_no_row_but_empty_ones(self):
        self.assertEqual(self.refused(""), 1)
        self.assertEqual(self.refused("\n"), 2)
        self.assertEqual(self.refused("\n\n"), 3)
        self.assertEqual(self.refused("\n" * 118), 119)
        self.assertEqual(self.refused("\n" * 119), 120)
        # Row 120 isn't written rightly, an empty one too.
        self.assertEqual(self.refused("\n" * 120), 120)
        self.assertEqual(self.refused("\n" * 500), 120)

    def test_row_120(self):
        rows = [HEAD] + ["labels"] * 119
        self.assertEqual(run(sheet(*rows)), ["-"] * 119)
        self.assertEqual(self.refused(sheet(*rows, "labels")), 120)
        self.assertEqual(self.refused(sheet(*rows, "")), 120)
        self.assertEqual(self.refused(sheet(*rows, "", "", "wrong")), 120)
        self.assertEqual(run(sheet(HEAD, *[""] * 118, "labels")), ["-"])
        self.assertEqual(self.refused(sheet(HEAD, *[""] * 119, "")), 120)
        self.assertEqual(run(sheet(*[""] * 119, HEAD)), [])
        self.assertEqual(self.refused(sheet(*[""] * 120, HEAD)), 120)
        # One ahead of it goes first.
        self.assertEqual(self.refused(sheet(*rows[:119], "wrong", "")), 119)
        self.assertEqual(self.refused(sheet("wrong", *rows)), 0)

    def of_size(self, size):
        """A row of so many signs that is rightly written but for its size, by classes a and ab."""
        leaves = ["ab"] * (size - 289) + ["a"] * (321 - size)
        terms = []
        for parts in (leaves[:16], leaves[16:]):
            while len(parts) > 1:
                parts = [f"( {one} or {other} )" for one, other in zip(parts[::2], parts[1::2])]
            terms += parts
        row = f"settled all {terms[0]} are {terms[1]}"
        self.assertEqual(len(row), size)
        return row

    def test_300_and_301_signs(self):
        for size in (299, 300):
            self.assertEqual(run(sheet("classes 40 a ab", self.of_size(size))), ["open"])
            self.assertEqual(run(sheet("", "classes 40 a ab", "labels", self.of_size(size), "labels")), ["-", "open", "-"])
        for size in (301, 302, 310):
            self.assertEqual(self.refused(sheet("classes 40 a ab", self.of_size(size))), 1)
            self.assertEqual(self.refused(sheet("", "classes 40 a ab", "labels", self.of_size(size), "wrong")), 3)
        self.assertEqual(self.refused("x" * 301), 0)
        self.assertEqual(self.refused("x" * 100000), 0)

    def test_other_signs(self):
        for sign in ("%", "\t", "\r", "\x00", "\x1f", "\x7f", "\u00e4", "\u00a0", "\u2028", "\u0660", "\x0b", "\x0c", "\x85"):
            self.assertEqual(self.refused(sheet(HEAD, "labels", "labels" + sign)), 2)
            self.assertEqual(self.refused(sheet(HEAD, sign, "wrong")), 1)
            self.assertEqual(self.refused(sheet(HEAD + sign, "wrong")), 0)
            self.assertEqual(self.refused(sheet("", sign, HEAD)), 1)
            self.assertEqual(self.refused(sheet(HEAD, f"say x{sign} all a are b")), 1)

    def test_no_sign_makes_a_right_row_of_another(self):
        for sign in SIGNS:
            for row in (f"labels{sign}", f"{sign}labels", f"say x all a are b{sign}", f"classes 40 a b{sign}c"):
                rows = sheet(row) if row.startswith("classes") else sheet(HEAD, row)
                right = row.startswith("classes") and (sign == " " or "a" <= sign <= "z")
                if right:
                    self.assertEqual(run(rows), [])
                else:
                    self.assertEqual(self.refused(rows), 0 if row.startswith("classes") else 1, row)

    def test_the_first_row(self):
        for row in ("classes", "classes 40", "classes 40 ", "classes a", "classes 41 a", "classes -1 a", "classes 04 a", "classes 00 a",
                    "classes x a", "Classes 40 a", "class 40 a", "classes  40 a", "classes 40  a", " classes 40 a", "classes 40 a ",
                    "classes 40 a a", "classes 40 a b c d e", "classes 40 a b c b", "classes 40 A", "classes 40 a1", "classes 40 abcdefghi",
                    "classes 40 a,b", "classes 40 things", "labels", "world", "say x all a are b", "classes 40 (", "classes 400 a",
                    "classes 4.0 a", "classes 40 a-b", " ", "classes " + "4" * 290 + " a", "classes40 a"):
            self.assertEqual(self.refused(row), 0, row)
            self.assertEqual(self.refused(sheet("", "", row, "labels")), 2, row)
        for word in RESERVED:
            self.assertEqual(self.refused(f"classes 40 a {word}"), 0)
        for row in ("classes 0 a", "classes 40 a", "classes 1 abcdefgh b", "classes 10 any is class classes", "classes 9 d c b a"):
            self.assertEqual(run(row), [])

    def test_other_rows(self):
        for row in (HEAD, "classes", "say", "say x", "say x ", "say all a are b", "say  all a are b", "say x  all a are b", "say X all a are b",
                    "say x1 all a are b", "say abcdefghi all a are b", "say x all a are d", "say x all a are b ", "say x all a",
                    "say x at least 42 a are b", "say x share 3 of 2 a are b", " say x all a are b", "Say x all a are b",
                    "say x y all a are b", "sayx all a are b", "back", "back ", "back x ", "back x y", "back  x", "back X", "back 1",
                    "back abcdefghi", "back x1", "follows", "follows ", "follows all a", "follows x all a are b", "follows  all a are b",
                    "follow all a are b", "settled", "settled a", "settled all a are b c", "why", "why all a are", "why ", "whys all a are b",
                    "world ", " world", "world x", "worlds", "World", "fewest ", "fewest x", "fewest 1", "clash ", "clash x", "labels ",
                    "labels x", "label", "count", "count ", "count d", "count all a are b", "count a b", "count  a", "count a ", "count ( a and b",
                    "count 1", "count " + "not " * 8 + "a", "say x all " + "not " * 8 + "a are b", " ", "  ", "x", "no", "%", "#", "yes"):
            self.assertEqual(self.refused(sheet(HEAD, row)), 1, row)
            self.assertEqual(self.refused(sheet("", HEAD, "", "labels", row, "wrong")), 4, row)
        self.assertEqual(run(sheet(HEAD, "count " + "not " * 7 + "a", "settled all " + "not " * 7 + "a are a")), ["0 40", "open"])

    def test_ahead_of_all_answers(self):
        # The row that would be refused by its label stands ahead of one that isn't rightly written.
        self.assertEqual(self.refused(sheet(HEAD, "back x", "say x all a are b", "say x all a are b", "wrong")), 4)
        before = time.perf_counter()
        self.assertEqual(self.refused(sheet(HEAD, *["count a"] * 118, "wrong")), 119)
        self.assertLess(time.perf_counter() - before, SLOWEST)

    def test_it_is_a_refusal_of_rows_alone(self):
        with self.assertRaises(SayError) as caught:
            run(sheet(HEAD, "say x all a are"))
        self.assertNotIsInstance(caught.exception, BadText)
        self.assertGreater(len(str(caught.exception)), 0)


class DrawnTest(Case):
    def drawn_rows(self, rng, many, most, names):
        """Rows of a sheet, the first one left out, with what each of them asks."""
        near = sayings_near(rng, many, most, 8) + [some_saying(rng, many, 3, 9) for _ in range(4)]
        labels = ["one", "two", "x", "y", "say", "all", "abcdefgh", "q", "r", "s", "t", "u"]
        found = []
        for _ in range(rng.randint(5, 40)):
            word = rng.choice(("say", "say", "say", "back", "follows", "settled", "why", "world", "fewest", "clash", "count", "labels"))
            parts = {"say": ("label", "saying"), "back": ("label",), "count": ("term",)}.get(
                word, ("saying",) if word in ("follows", "settled", "why") else ())
            asked = {"label": rng.choice(labels), "saying": rng.choice(near), "term": some_term(rng, many, 3)}
            written = {"label": asked["label"], "saying": text_of(asked["saying"], names), "term": term_text(asked["term"], names)}
            row = " ".join([word] + [written[part] for part in parts])
            if len(row) <= 300:
                found.append((row, word, [asked[part] for part in parts]))
        return found

    def wanted(self, talk, many, most, word, parts):
        """What a Talk tells, as a text; of worlds None."""
        if word in ("say", "back"):
            try:
                return talk.say(*parts) if word == "say" else talk.take_back(*parts)
            except SayError as refusal:
                return f"refused {type(refusal).__name__}"
        if word == "settled":
            return talk.settles(*parts)
        if word == "fewest":
            return "none" if talk.fewest_now() is None else str(talk.fewest_now())
        if word == "labels":
            return " ".join(talk.labels()) or "-"
        if word in ("why", "clash"):
            labels = talk.whys(*parts) if word == "why" else talk.clash_now()
            return {"why": "no", "clash": "none"}[word] if labels is None else " ".join(["by"] + labels)
        if word == "count":
            counts = [ask(many, most, talk.sayings_now(), *parts) for ask in (least_count, greatest_count)]
            return "none" if None in counts else " ".join(map(str, counts))
        if word == "follows" and talk.follows_now(*parts):
            return "yes"
        return "none" if word == "world" and talk.a_world() is None else None

    def test_answers_are_what_a_talk_tells(self):
        rng = seeded(121)
        seen = {}
        for _ in range(60):
            many, most = rng.randint(1, 4), rng.randint(0, 40)
            names = ["birds", "x", "any", "abcdefgh"][:many]
            rows = self.drawn_rows(rng, many, most, names)
            text = sheet(f"classes {most} " + " ".join(names), *[row for row, _, _ in rows])
            before = time.perf_counter()
            told = run(text)
            self.assertLess(time.perf_counter() - before, SLOWEST)
            self.assertEqual(len(told), len(rows))
            talk = Talk(many, most)
            for (row, word, parts), answer in zip(rows, told):
                wanted = self.wanted(talk, many, most, word, parts)
                seen[(word, wanted if wanted in ("none", "no", "yes", "open", "free", "-") else "")] = True
                if wanted is not None:
                    self.assertEqual(answer, wanted, row)
                    continue
                world = counts_in(answer.removeprefix("no ") if word == "follows" else answer)
                self.assertEqual(answer.startswith("no "), word == "follows")
                self.assertIs(is_world(many, most, talk.sayings_now(), world), True)
                self.assertFalse(word == "follows" and is_true(parts[0], world))
            self.assertEqual(run(text), told)
        for word, answer in (("world", "none"), ("fewest", "none"), ("clash", "none"), ("count", "none"), ("why", "no"), ("back", "free"),
                             ("follows", "yes"), ("labels", "-"), ("say", "open"), ("clash", ""), ("why", ""), ("world", "")):
            self.assertIn((word, answer), seen)

    def test_where_all_worlds_can_be_gone_through(self):
        rng = seeded(122)
        for _ in range(40):
            many, most = rng.choice(((1, 4), (2, 3)))
            names = NAMES[:many]
            sayings = [some_saying(rng, many, 2, most) for _ in range(rng.randint(0, 3))]
            asked, term = some_saying(rng, many, 2, most), some_term(rng, many, 2)
            rows = [f"say {'xyz'[k]} {text_of(saying, names)}" for k, saying in enumerate(sayings)]
            told = run(sheet(f"classes {most} " + " ".join(names), *rows, "follows " + text_of(asked, names), "fewest",
                             "count " + term_text(term, names)))[len(rows):]
            worlds = [world for world in worlds_of(many, most) if all(is_true(saying, world) for saying in sayings)]
            self.assertEqual(told[0] == "yes", all(is_true(asked, world) for world in worlds))
            self.assertTrue(told[0] == "yes" or counts_in(told[0][3:]) in worlds)
            self.assertEqual(told[1], str(min([sum(world) for world in worlds], default="none")))
            counts = [sum(n for cell, n in enumerate(world) if is_true(("some", term, term), tuple(
                int(k == cell) for k in range(2 ** many)))) for world in worlds]
            self.assertEqual(told[2], f"{min(counts)} {max(counts)}" if counts else "none")

    def test_a_long_sheet(self):
        rng = seeded(123)
        many, most = 4, 40
        names = ["a", "b", "c", "d"]
        near = [saying for saying in sayings_near(rng, many, most, 30) if len(text_of(saying, names)) < 250][:10]
        rows = [f"say {'abcdefghij'[k]} {text_of(saying, names)}" for k, saying in enumerate(near)]
        asks = [f"{word} {text_of(saying, names)}" for word in ("why", "follows", "settled") for saying in near]
        rows += (asks + ["count ( a and ( b or c ) )", "clash", "fewest", "world"] * 20)[:119 - len(rows)]
        before = time.perf_counter()
        told = run(sheet("classes 40 a b c d", *rows))
        self.assertLess(time.perf_counter() - before, SLOWEST)
        self.assertEqual(len(told), len(rows))

    def test_a_follows_row_is_what_following_tells(self):
        names = ["a", "b"]
        told = run(sheet("classes 9 a b", "say x all a are b", "follows all b are a"))[1]
        kind, world = follows(2, 9, [saying_of("all a are b", names)], saying_of("all b are a", names))
        self.assertEqual((kind, len(world)), ("no", len(counts_in(told[3:]))))


if __name__ == "__main__":
    unittest.main()
