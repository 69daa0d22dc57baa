"""[15], [16]: talks."""

import time
import unittest

from somesay.clashes import clash
from somesay.errors import NoLabel, SayError, Taken, TooMany
from somesay.finding import world_of
from somesay.following import follows, needed_for, settled
from somesay.least import fewest_things
from somesay.sayings import is_world
from somesay.talk import Talk
from tests.oracle import A, ANY, B, C, is_true, sayings_near, seeded, some_saying, worlds_of

SLOWEST = 20
LABELS = ["a", "b", "zz", "abcdefgh", "all", "not", "share", "x", "y", "z", "q", "w"]
ASKS = ("labels", "sayings_now", "a_world", "clash_now", "fewest_now", "twin_talk", "say", "take_back", "follows_now",
        "settles", "whys")
CHAIN = [("one", ("all", A, B)), ("two", ("all", B, C)), ("three", ("some", A, A))]


def talk_of(many, most, said):
    talk = Talk(many, most)
    for label, saying in said:
        talk.say(label, saying)
    return talk


def told_by(talk, sayings):
    """All that can be asked of a talk, with these asked of."""
    told = [talk.labels(), talk.sayings_now(), talk.a_world(), talk.clash_now(), talk.fewest_now()]
    return told + [(talk.follows_now(saying), talk.settles(saying), talk.whys(saying)) for saying in sayings]


class SayTest(unittest.TestCase):
    def test_none_at_first(self):
        for many, most in ((1, 0), (4, 40)):
            talk = Talk(many, most)
            self.assertEqual(talk.labels(), [])
            self.assertEqual(talk.sayings_now(), [])
            self.assertIs(is_world(many, most, [], talk.a_world()), True)
            self.assertIsNone(talk.clash_now())
            self.assertEqual(talk.fewest_now(), 0)
            self.assertEqual(talk.whys(("all", A, A)), [])
            self.assertIsNone(talk.whys(("some", A, A)))

    def test_what_say_tells(self):
        talk = Talk(3, 40)
        self.assertEqual(talk.say("one", ("all", A, B)), "open")
        self.assertEqual(talk.say("two", ("all", B, C)), "open")
        self.assertEqual(talk.say("known", ("all", A, C)), "yes")
        self.assertEqual(talk.say("some", ("some", A, A)), "open")
        self.assertEqual(talk.say("no", ("none", C, A)), "no")
        self.assertEqual(talk.say("late", ("all", A, A)), "clash")
        self.assertEqual(talk.say("later", ("more", A, A)), "clash")
        self.assertEqual(talk.labels(), ["one", "two", "known", "some", "no", "late", "later"])

    def test_it_is_said_whichever(self):
        for first, saying, word in ((("all", A, B), ("all", A, B), "yes"), (("some", A, B), ("none", A, B), "no"),
                                    (("some", A, B), ("some", A, C), "open"), (("more", A, A), ("some", A, C), "clash")):
            talk = talk_of(3, 40, [("first", first)])
            self.assertEqual(talk.say("x", saying), word)
            self.assertEqual(talk.labels(), ["first", "x"])
            self.assertEqual(talk.sayings_now(), [first, saying])

    def test_by_the_sayings_ahead_alone(self):
        # By itself it has no world; of one that is said the same may be said again.
        self.assertEqual(Talk(2, 40).say("x", ("more", A, A)), "no")
        self.assertEqual(Talk(2, 0).say("x", ("some", A, A)), "no")
        self.assertEqual(Talk(2, 0).say("x", ("all", A, B)), "yes")
        self.assertEqual(Talk(2, 1).say("x", ("all", A, B)), "open")

    def test_refused_with_taken(self):
        talk = talk_of(3, 40, CHAIN)
        for saying in (("all", A, B), ("none", A, B)):
            with self.assertRaises(Taken) as caught:
                talk.say("one", saying)
            self.assertIs(type(caught.exception), Taken)
        self.assertEqual(talk.sayings_now(), [saying for _, saying in CHAIN])

    def test_refused_with_too_many(self):
        talk = talk_of(2, 40, [(label, ("all", A, B)) for label in LABELS[:10]])
        self.assertEqual(talk.labels(), LABELS[:10])
        with self.assertRaises(TooMany) as caught:
            talk.say(LABELS[10], ("some", A, B))
        self.assertIs(type(caught.exception), TooMany)
        self.assertEqual(talk.labels(), LABELS[:10])
        self.assertEqual(talk.fewest_now(), 0)
        talk.take_back("zz")
        self.assertEqual(talk.say(LABELS[10], ("some", A, B)), "open")
        self.assertEqual(len(talk.labels()), 10)

    def test_taken_goes_ahead_of_too_many(self):
        talk = talk_of(2, 40, [(label, ("all", A, B)) for label in LABELS[:10]])
        with self.assertRaises(Taken):
            talk.say(LABELS[0], ("some", A, B))
        with self.assertRaises(Taken):
            talk.say(LABELS[9], ("some", A, B))

    def test_no_refusal_below_ten(self):
        talk = talk_of(2, 40, [(label, ("least", k, A, B)) for k, label in enumerate(LABELS[:9])])
        self.assertEqual(talk.say(LABELS[9], ("least", 9, A, B)), "open")


class TakeBackTest(unittest.TestCase):
    def test_free_and_still(self):
        talk = talk_of(3, 40, CHAIN + [("four", ("none", A, C)), ("five", ("all", C, C))])
        self.assertEqual(talk.take_back("five"), "still")
        self.assertIsNone(talk.a_world())
        self.assertEqual(talk.take_back("one"), "free")
        self.assertEqual(talk.take_back("two"), "still")
        self.assertEqual(talk.labels(), ["three", "four"])

    def test_still_where_they_never_clashed(self):
        talk = talk_of(3, 40, CHAIN)
        for label in ("two", "three", "one"):
            self.assertEqual(talk.take_back(label), "still")
        self.assertEqual(talk.labels(), [])

    def test_two_clashes(self):
        said = [("a", ("some", A, A)), ("b", ("none", A, A)), ("c", ("more", B, B)), ("d", ("more", B, B))]
        talk = talk_of(2, 40, said)
        self.assertEqual([talk.take_back(label) for label in "bcd"], ["still", "still", "free"])

    def test_refused_with_no_label(self):
        talk = talk_of(3, 40, CHAIN)
        for label in ("four", "on", "ones", "ONE", ""):
            with self.assertRaises(NoLabel) as caught:
                talk.take_back(label)
            self.assertIs(type(caught.exception), NoLabel)
        self.assertEqual(talk.labels(), ["one", "two", "three"])
        talk.take_back("one")
        with self.assertRaises(NoLabel):
            talk.take_back("one")
        with self.assertRaises(NoLabel):
            Talk(1, 1).take_back("one")

    def test_said_again_it_stands_behind(self):
        talk = talk_of(3, 40, CHAIN)
        talk.take_back("one")
        self.assertEqual(talk.say("one", ("all", A, B)), "open")
        self.assertEqual(talk.labels(), ["two", "three", "one"])
        self.assertEqual(talk.sayings_now(), [("all", B, C), ("some", A, A), ("all", A, B)])
        self.assertEqual(talk.whys(("some", C, A)), ["two", "three", "one"])

    def test_a_label_said_again_of_another_saying(self):
        talk = talk_of(3, 40, CHAIN)
        talk.take_back("two")
        self.assertEqual(talk.say("two", ("none", B, C)), "open")
        self.assertIs(talk.follows_now(("none", A, C)), True)
        self.assertIs(talk.follows_now(("all", A, C)), False)

    def test_as_if_it_had_never_been_said(self):
        asked = [("some", A, C), ("all", A, C), ("none", B, C), ("least", 2, A, ANY)]
        talk = talk_of(3, 40, CHAIN)
        before = told_by(talk, asked)
        for saying in (("none", A, C), ("more", A, A), ("just", 4, A, B), ("all", A, C)):
            talk.say("x", saying)
            talk.take_back("x")
            self.assertEqual(told_by(talk, asked), before)


class AsksTest(unittest.TestCase):
    def setUp(self):
        self.talk = talk_of(3, 40, CHAIN)

    def test_follows_now(self):
        self.assertIs(self.talk.follows_now(("some", A, C)), True)
        self.assertIs(self.talk.follows_now(("all", C, A)), False)
        self.talk.say("four", ("none", A, C))
        self.assertIs(self.talk.follows_now(("all", C, A)), True)

    def test_settles(self):
        self.assertEqual(self.talk.settles(("some", A, C)), "yes")
        self.assertEqual(self.talk.settles(("none", A, C)), "no")
        self.assertEqual(self.talk.settles(("all", C, A)), "open")
        self.assertEqual(self.talk.labels(), ["one", "two", "three"])
        self.talk.say("four", ("none", A, C))
        self.assertEqual(self.talk.settles(("all", C, A)), "clash")

    def test_clash_now(self):
        self.assertIsNone(self.talk.clash_now())
        self.talk.say("else", ("some", B, B))
        self.talk.say("four", ("none", A, C))
        self.talk.say("again", ("none", A, C))
        self.assertEqual(self.talk.clash_now(), ["one", "two", "three", "four"])
        self.talk.take_back("one")
        self.assertIsNone(self.talk.clash_now())
        self.talk.say("one", ("all", A, C))
        # Of the label that was said again as it stands now; the last ones are left out first.
        self.assertEqual(self.talk.clash_now(), ["three", "four", "one"])

    def test_fewest_now(self):
        self.assertEqual(self.talk.fewest_now(), 1)
        self.talk.say("four", ("least", 7, C, ("not", A)))
        self.assertEqual(self.talk.fewest_now(), 8)
        self.talk.say("five", ("most", 7, ANY, ANY))
        self.assertIsNone(self.talk.fewest_now())

    def test_whys(self):
        self.assertEqual(self.talk.whys(("some", A, C)), ["one", "two", "three"])
        self.assertEqual(self.talk.whys(("all", A, C)), ["one", "two"])
        self.assertEqual(self.talk.whys(("some", A, B)), ["one", "three"])
        self.assertEqual(self.talk.whys(("all", A, A)), [])
        self.assertIsNone(self.talk.whys(("all", C, A)))

    def test_a_world(self):
        world = self.talk.a_world()
        self.assertIs(type(world), tuple)
        self.assertIs(is_world(3, 40, self.talk.sayings_now(), world), True)
        self.talk.say("four", ("none", A, C))
        self.assertIsNone(self.talk.a_world())

    def test_asking_changes_nothing(self):
        asked = [("some", A, C), ("none", A, C), ("all", C, A)]
        before = told_by(self.talk, asked)
        self.assertEqual(told_by(self.talk, asked), before)
        self.assertEqual(self.talk.labels(), ["one", "two", "three"])

    def test_what_is_told_is_the_askers_own(self):
        self.talk.say("four", ("none", A, C))
        for ask in (self.talk.labels, self.talk.sayings_now, self.talk.clash_now, lambda: self.talk.whys(("some", A, C))):
            before = ask()
            first, second = ask(), ask()
            self.assertIsNot(first, second)
            first.append("spoilt")
            first.reverse()
            self.assertEqual((second, ask()), (before, before))

    def test_methods_stand_in_the_class_itself(self):
        for name in ASKS:
            self.assertIn(name, vars(Talk))

    def test_of_anything_told(self):
        for talk in (self.talk, Talk(1, 0)):
            self.assertEqual([type(told) for told in (talk.labels(), talk.sayings_now(), talk.a_world(), talk.fewest_now())],
                             [list, list, tuple, int])


class TwinTest(unittest.TestCase):
    def test_the_same(self):
        asked = [("some", A, C), ("none", A, C), ("all", C, A)]
        talk = talk_of(3, 17, CHAIN)
        twin = talk.twin_talk()
        self.assertIs(type(twin), Talk)
        self.assertEqual(told_by(twin, asked), told_by(talk, asked))
        self.assertEqual(twin.settles(("least", 18, ANY, ANY)), "no")
        self.assertEqual(twin.settles(("least", 17, ANY, ANY)), "open")

    def test_of_its_own(self):
        talk = talk_of(3, 40, CHAIN)
        twin = talk.twin_talk()
        twin.say("four", ("none", A, C))
        talk.take_back("one")
        self.assertEqual(talk.labels(), ["two", "three"])
        self.assertEqual(twin.labels(), ["one", "two", "three", "four"])
        again = twin.twin_talk()
        twin.take_back("two")
        self.assertEqual(again.labels(), ["one", "two", "three", "four"])
        self.assertIsNone(again.a_world())
        self.assertIsNotNone(twin.a_world())
        with self.assertRaises(Taken):
            again.say("four", ("all", A, A))


class DrawnTest(unittest.TestCase):
    def held(self, many, most, talk, kept, asked):
        """What a talk tells is what a new one tells, and the other files do, of what is left."""
        sayings = [saying for _, saying in kept]
        labels = [label for label, _ in kept]
        before = time.perf_counter()
        told = told_by(talk, asked)
        self.assertLess(time.perf_counter() - before, SLOWEST)
        self.assertEqual(told, told_by(talk_of(many, most, kept), asked))
        self.assertEqual(told, told_by(talk.twin_talk(), asked))
        self.assertEqual(told[:2], [labels, sayings])
        kind, world = world_of(many, most, sayings)
        self.assertEqual(told[2] is None, kind == "none")
        self.assertTrue(told[2] is None or is_world(many, most, sayings, told[2]))
        clashing = clash(many, most, sayings)
        self.assertEqual(told[3], None if clashing is None else [labels[number] for number in clashing[0]])
        self.assertEqual(told[4], fewest_things(many, most, sayings))
        for saying, (follows_now, settles, whys) in zip(asked, told[5:]):
            self.assertIs(follows_now, follows(many, most, sayings, saying)[0] == "yes")
            self.assertEqual(settles, settled(many, most, sayings, saying))
            needed = needed_for(many, most, sayings, saying)
            self.assertEqual(whys, None if needed is None else [labels[number] for number in needed])

    def go_on(self, rng, talk, kept, saying):
        """Say or take back something that may be refused; the sayings that are left are told, and what was told."""
        label = rng.choice(LABELS)
        taken = label in [other for other, _ in kept]
        if rng.random() < 0.7:
            try:
                told = talk.say(label, saying)
            except SayError as refusal:
                self.assertIs(type(refusal), Taken if taken else TooMany)
                self.assertTrue(taken or len(kept) == 10)
                return kept, None
            self.assertTrue(not taken and len(kept) < 10)
            return kept + [(label, saying)], told
        try:
            told = talk.take_back(label)
        except NoLabel:
            self.assertFalse(taken)
            return kept, None
        self.assertTrue(taken)
        return [(other, said) for other, said in kept if other != label], told

    def test_talks_of_all_sizes(self):
        rng = seeded(101)
        words = {}
        for _ in range(25):
            many, most = rng.randint(1, 4), rng.randint(0, 40)
            talk, kept = Talk(many, most), []
            near = sayings_near(rng, many, most, 8) + [some_saying(rng, many, 3, 9) for _ in range(3)]
            for _ in range(22):
                kept, told = self.go_on(rng, talk, kept, rng.choice(near))
                words[told] = words.get(told, 0) + 1
            self.held(many, most, talk, kept, [some_saying(rng, many, 2, 5), rng.choice(near)])
        self.assertEqual(set(words), {None, "yes", "no", "open", "clash", "free", "still"})

    def test_ten_sayings(self):
        rng = seeded(102)
        for _ in range(6):
            kept = [(label, some_saying(rng, 4, 4, 12)) for label in LABELS[:10]]
            self.held(4, 40, talk_of(4, 40, kept), kept, [some_saying(rng, 4, 3, 5), kept[3][1]])

    def test_where_all_worlds_can_be_gone_through(self):
        rng = seeded(103)
        for many, most in ((1, 3), (2, 2), (2, 3)):
            worlds = worlds_of(many, most)
            for _ in range(12):
                talk, kept = Talk(many, most), []
                for _ in range(14):
                    mine = [w for w in worlds if all(is_true(said, w) for _, said in kept)]
                    saying = some_saying(rng, many, 2, most + 1)
                    held = [is_true(saying, world) for world in mine]
                    right = "clash" if not held else "yes" if all(held) else "no" if not any(held) else "open"
                    before = kept
                    kept, told = self.go_on(rng, talk, kept, saying)
                    left = [w for w in worlds if all(is_true(said, w) for _, said in kept)]
                    if len(kept) > len(before):
                        self.assertEqual(told, right)
                    elif len(kept) < len(before):
                        self.assertEqual(told, "free" if left and not mine else "still")
                    self.assertEqual(talk.fewest_now(), min([sum(world) for world in left], default=None))
                    self.assertEqual(talk.follows_now(saying), all(is_true(saying, world) for world in left))


if __name__ == "__main__":
    unittest.main()
