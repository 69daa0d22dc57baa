"""Frames: other numbers that tell the counts, whole just where the counts are.

A frame has a step for each coordinate, and a reading, numbers by which the counts add up to it.
The counts are each step times its coordinate, added up.
"""

from somesay.plain import weighed


class Frame:
    """At first the coordinates are the counts themselves."""

    def __init__(self, size):
        self.steps = [unit(size, at) for at in range(size)]
        self.readings = [unit(size, at) for at in range(size)]
        self.free = list(range(size))
        self.known = {}

    def shift(self, one, other, times):
        """Take the step of other so many times from that of one: the coordinate of other grows instead."""
        self.steps[one] = [x - times * y for x, y in zip(self.steps[one], self.steps[other])]
        self.readings[other] = [x + times * y for x, y in zip(self.readings[other], self.readings[one])]

    def tie(self, numbers, top, bottom):
        """Take in that counts by these numbers add up to top over bottom: None, or a reading that isn't whole then."""
        pulls = [weighed(numbers, step) for step in self.steps]
        told = self.gathered(pulls)
        if told is None:
            return None
        rest = top - bottom * sum([pulls[at] * self.known[at] for at in self.known])
        if rest % (bottom * pulls[told]) != 0:
            return list(self.readings[told])
        self.known[told] = rest // (bottom * pulls[told])
        self.free.remove(told)
        return None

    def gathered(self, pulls):
        """Shift steps till one free coordinate at most pulls, and change pulls along; which one it is, or None."""
        pulling = self.pulling(pulls)
        while len(pulling) > 1:
            least = pulling[0]
            for at in pulling[1:]:
                times = pulls[at] // pulls[least]
                self.shift(at, least, times)
                pulls[at] -= times * pulls[least]
            pulling = self.pulling(pulls)
        return pulling[0] if pulling else None

    def pulling(self, pulls):
        """The free coordinates that pull, the weakest one first."""
        return [at for size, at in sorted([(abs(pulls[at]), at) for at in self.free if pulls[at] != 0])]

    def free_readings(self):
        return [list(self.readings[at]) for at in self.free]


def unit(size, at):
    return [1 if k == at else 0 for k in range(size)]
