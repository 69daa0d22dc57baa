"""[1] and the interface: what is promised over the whole program."""

import importlib
import inspect
import time
import unittest

from somesay.asking import ask_plan, best_ask, split_by
from somesay.clashes import clash
from somesay.finding import world_of
from somesay.following import follows, needed_for, settled
from somesay.least import all_worlds, fewest_things, least_world
from somesay.narrowing import narrowed
from somesay.papers import rows_at, shows_paper
from somesay.papertexts import paper_in, paper_text
from somesay.sayings import base_rows, is_world, opposites, row_holds
from somesay.sheet import run
from somesay.talk import Talk
from somesay.texts import saying_of, text_of
from tests.oracle import BY_FRACTIONS, is_true, row_is_true, sayings_near, seeded, some_saying, worlds_of

SLOWEST = 30
NAMES = ["birds", "flying", "x", "any"]
# Files, and by name how many arguments a function takes.
INTERFACE = {
    "terms": {"is_term": 2, "cells_of": 2, "depth_of": 1, "classes_in": 1},
    "sayings": {"is_saying": 2, "holds": 2, "opposites": 1, "rows_of": 2, "row_holds": 2, "base_rows": 3, "is_world": 4},
    "sums": {"sum_of": 2, "shows_sum": 2, "part_or_sum": 1},
    "papers": {"shows_paper": 2, "rows_at": 2, "paper_size": 1, "whole_row": 2},
    "finding": {"world_or_paper": 2, "world_of": 3, "forms_of": 2},
    "following": {"follows": 4, "shows_follows": 5, "settled": 4, "needed_for": 4},
    "clashes": {"clash": 3, "shows_clash": 4, "clashing_pairs": 3},
    "least": {"fewest_things": 3, "least_world": 3, "shows_least": 5, "all_worlds": 3, "least_count": 4, "greatest_count": 4},
    "asking": {"split_by": 2, "best_ask": 2, "ask_plan": 2},
    "texts": {"text_of": 2, "saying_of": 2, "term_text": 2},
    "sheet": {"run": 1},
    "narrowing": {"sources": 4, "used_sayings": 4, "narrowed": 4},
    "papertexts": {"paper_text": 1, "paper_in": 1},
}
METHODS = {"__init__": 3, "say": 3, "take_back": 2, "labels": 1, "sayings_now": 1, "a_world": 1, "follows_now": 2, "settles": 2,
           "clash_now": 1, "fewest_now": 1, "whys": 2, "twin_talk": 1}


def drawn(rng, many, most, wanted):
    if rng.random() < 0.6:
        return sayings_near(rng, many, most, wanted)
    return [some_saying(rng, many, 3, rng.choice((2, most + 1))) for _ in range(wanted)]


def true_worlds(many, most, sayings):
    return [world for world in worlds_of(many, most) if all(is_true(saying, world) for saying in sayings)]


class InterfaceTest(unittest.TestCase):
    def test_names_and_arguments(self):
        for file, names in INTERFACE.items():
            module = importlib.import_module("somesay." + file)
            for name, size in names.items():
                taken = inspect.signature(getattr(module, name)).parameters
                self.assertEqual(len(taken), size, (file, name))
                self.assertEqual(getattr(module, name).__module__, "somesay." + file)

    def test_methods_of_talk(self):
        for name, size in METHODS.items():
            self.assertEqual(len(inspect.signature(vars(Talk)[name]).parameters), size, name)


class PromisesTest(unittest.TestCase):
    def setUp(self):
        self.started = time.perf_counter()

    def tearDown(self):
        self.assertLess(time.perf_counter() - self.started, SLOWEST)

    def test_what_follows_holds_in_all_worlds(self):
        rng = seeded(151)
        seen = {"yes": 0, "no": 0}
        for _ in range(150):
            many, most = rng.choice(((1, 5), (2, 3), (3, 2)))
            sayings, saying = drawn(rng, many, most, rng.randint(0, 4)), some_saying(rng, many, 2, 3)
            worlds = all_worlds(many, most, sayings)
            self.assertEqual(worlds, true_worlds(many, most, sayings))
            kind, found = follows(many, most, sayings, saying)
            seen[kind] += 1
            if kind == "yes":
                self.assertEqual(split_by(worlds, saying), (len(worlds), 0))
                # Each step's rows, but the case that isn't so, hold in all worlds; so there are none by the opposite.
                for opposite, paper in zip(opposites(saying), found):
                    self.assertEqual(all_worlds(many, most, sayings + [opposite]), [])
            else:
                self.assertIn(found, worlds)
                self.assertFalse(is_true(saying, found))
        self.assertGreater(min(seen.values()), 30)

    def test_each_step_is_true_in_each_world_of_what_is_ahead(self):
        rng = seeded(152)
        found = 0
        for many, most, sayings in BY_FRACTIONS + [(2, 3, drawn(rng, 2, 3, 5)) for _ in range(80)]:
            kind, paper = world_of(many, most, sayings)
            if kind != "none" or many > 2:
                continue
            rows = base_rows(many, most, sayings)
            told = rows_at(rows, paper)
            worlds = worlds_of(many, min(most, 9))
            ahead = {name: at for at, step in enumerate(paper) if step[0] == "whole" for name in step[3:]}
            for name, at in ahead.items():
                for world in worlds:
                    if all(row_is_true(row, world) for row in told[at]):
                        self.assertTrue(row_holds(told[name][-1], world))
            found += 1
        self.assertGreater(found, 15)

    def test_a_narrowed_paper_is_one_for_the_sayings_that_it_uses_alone(self):
        rng = seeded(153)
        found = 0
        for _ in range(200):
            many, most = rng.randint(1, 4), rng.randint(0, 40)
            sayings = drawn(rng, many, most, rng.randint(2, 8)) + [some_saying(rng, many, 2, 5)]
            kind, paper = world_of(many, most, sayings)
            if kind == "none":
                used, narrower = narrowed(many, most, sayings, paper_in(paper_text(paper)))
                kept = [sayings[number] for number in used]
                self.assertIs(shows_paper(base_rows(many, most, kept), narrower), True)
                self.assertIs(shows_paper(base_rows(many, most, kept), paper_in(paper_text(narrower))), True)
                self.assertIsNotNone(clash(many, most, kept))
                self.assertEqual(world_of(many, most, kept)[0], "none")
                found += 1
        self.assertGreater(found, 50)

    def test_a_clash_is_what_follows_by_its_opposites(self):
        rng = seeded(154)
        found = 0
        for _ in range(120):
            many, most = rng.randint(1, 4), rng.randint(0, 40)
            sayings = drawn(rng, many, most, rng.randint(2, 8)) + [some_saying(rng, many, 2, 5)]
            told = clash(many, most, sayings)
            if told is None:
                self.assertIs(is_world(many, most, sayings, world_of(many, most, sayings)[1]), True)
                continue
            kept = [sayings[number] for number in told[0]]
            for k, saying in enumerate(kept):
                others = kept[:k] + kept[k + 1:]
                self.assertEqual(settled(many, most, others, saying), "no")
                for opposite in opposites(saying)[:1] if len(opposites(saying)) == 1 else []:
                    self.assertEqual(needed_for(many, most, others, opposite), tuple(range(len(others))))
                found += 1
        self.assertGreater(found, 60)

    def test_no_world_has_fewer_things(self):
        rng = seeded(155)
        for _ in range(120):
            many, most = rng.randint(1, 4), rng.randint(0, 40)
            sayings = drawn(rng, many, most, rng.randint(0, 8))
            told = least_world(many, most, sayings)
            if told[0] == "world":
                size = sum(told[1])
                self.assertEqual(settled(many, most, sayings, ("least", size, ("any",), ("any",))), "yes")
                self.assertEqual(follows(many, most, sayings, ("least", size + 1, ("any",), ("any",)))[0], "no")
                self.assertEqual(fewest_things(many, size, sayings), size)

    def test_the_next_question_splits_the_told_worlds_best(self):
        rng = seeded(156)
        for _ in range(60):
            many, most = rng.choice(((1, 6), (2, 4), (3, 2)))
            worlds = all_worlds(many, most, drawn(rng, many, most, 2))
            sayings = [some_saying(rng, many, 2, 4) for _ in range(10)]
            told = best_ask(worlds, sayings)
            parts = [max(split_by(worlds, saying)) for saying in sayings if 0 not in split_by(worlds, saying)]
            self.assertEqual(told is None, not parts)
            if told is not None:
                self.assertEqual(max(told[1:]), min(parts))
                self.assertEqual(ask_plan(worlds, sayings)[0], told)

    def test_sheets_talks_and_texts_tell_the_same(self):
        rng = seeded(157)
        for _ in range(40):
            many, most = rng.randint(1, 4), rng.randint(0, 40)
            names = NAMES[:many]
            sayings = [saying for saying in drawn(rng, many, most, 8) if len(text_of(saying, names)) < 280]
            asked = some_saying(rng, many, 2, 5)
            rows = [f"classes {most} " + " ".join(names)]
            talk = Talk(many, most)
            wanted = []
            for k, saying in enumerate(sayings):
                rows.append(f"say {'abcdefgh'[k]} {text_of(saying, names)}")
                wanted.append(talk.say("abcdefgh"[k], saying_of(text_of(saying, names), names)))
            rows += ["settled " + text_of(asked, names), "labels"]
            wanted += [talk.settles(asked), " ".join(talk.labels()) or "-"]
            self.assertEqual(run("\n".join(rows)), wanted)


if __name__ == "__main__":
    unittest.main()
