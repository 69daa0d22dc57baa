"""Talks: sayings are said under labels, and taken back."""

from somesay.clashes import clash
from somesay.errors import NoLabel, Taken, TooMany
from somesay.finding import world_of
from somesay.following import follows, needed_for, settled
from somesay.least import fewest_things

MOST_SAYINGS = 10


class Talk:
    """The sayings that are said now, by their labels, in the order in which they were said.

    All answers go by these alone, so nothing is left of what was taken back.
    """

    def __init__(self, many, most):
        self.many = many
        self.most = most
        self.said = {}

    def say(self, label, saying):
        """Say it, and tell what was settled of it by the sayings ahead."""
        if label in self.said:
            raise Taken(f"a saying has the label {label} already")
        if len(self.said) >= MOST_SAYINGS:
            raise TooMany(f"there are {MOST_SAYINGS} sayings already")
        told = self.settles(saying)
        self.said[label] = saying
        return told

    def take_back(self, label):
        """Take it back, and tell whether the sayings are "free" of their clash by that, or "still" as they were."""
        if label not in self.said:
            raise NoLabel(f"no saying has the label {label}")
        clashed = self.a_world() is None
        del self.said[label]
        return "free" if clashed and self.a_world() is not None else "still"

    def labels(self):
        return list(self.said)

    def sayings_now(self):
        return list(self.said.values())

    def a_world(self):
        """A world of the sayings, None where they have none."""
        kind, found = world_of(self.many, self.most, self.sayings_now())
        return found if kind == "world" else None

    def follows_now(self, saying):
        return follows(self.many, self.most, self.sayings_now(), saying)[0] == "yes"

    def settles(self, saying):
        return settled(self.many, self.most, self.sayings_now(), saying)

    def clash_now(self):
        """The labels of few sayings that clash, None where all have a world."""
        told = clash(self.many, self.most, self.sayings_now())
        return None if told is None else self.labels_of(told[0])

    def fewest_now(self):
        return fewest_things(self.many, self.most, self.sayings_now())

    def whys(self, saying):
        """The labels of sayings from which it follows, None where it doesn't."""
        numbers = needed_for(self.many, self.most, self.sayings_now(), saying)
        return None if numbers is None else self.labels_of(numbers)

    def labels_of(self, numbers):
        labels = self.labels()
        return [labels[number] for number in numbers]

    def twin_talk(self):
        """A talk of its own in which the same was said."""
        other = Talk(self.many, self.most)
        other.said = dict(self.said)
        return other
