"""A frame's free steps made short: by the method of Lenstra, Lenstra and Lovasz, in whole numbers only.

How long a step is, its image tells: numbers that its shifts and swaps go along with. Behind it
the last coordinates are those that the fewest whole numbers are left for.
"""

from somesay.plain import weighed


class Reduction:
    """The places are those of the frame's free coordinates; image by image what stands apart from those ahead is told.

    areas[k] is the squared area of the first k images, parts[k][j] tells how much of image j is in image k, times
    areas[j + 1]: both are whole.
    """

    def __init__(self, frame, images):
        self.frame = frame
        self.images = images
        self.areas = [1]
        self.parts = []

    def run(self):
        place = 0
        while place < len(self.images):
            if place == len(self.parts):
                self.measure(place)
            if place > 0:
                self.shorten(place, place - 1)
            if place > 0 and self.is_misplaced(place):
                self.trade(place)
                place -= 1
            else:
                for other in reversed(range(place - 1)):
                    self.shorten(place, other)
                place += 1

    def measure(self, place):
        found = []
        for other in range(place + 1):
            part = weighed(self.images[place], self.images[other])
            for k in range(other):
                past = found[k] if other == place else self.parts[other][k]
                part = (self.areas[k + 1] * part - found[k] * past) // self.areas[k]
            found.append(part)
        self.areas.append(found.pop())
        self.parts.append(found)

    def shorten(self, place, other):
        """Take the other image so many times from this one that as little of it as can be is left."""
        part, area = self.parts[place][other], self.areas[other + 1]
        if 2 * abs(part) <= area:
            return
        times = (2 * part + area) // (2 * area)
        self.frame.shift(self.frame.free[place], self.frame.free[other], times)
        self.images[place] = [x - times * y for x, y in zip(self.images[place], self.images[other])]
        self.parts[place][other] -= times * area
        for k in range(other):
            self.parts[place][k] -= times * self.parts[other][k]

    def is_misplaced(self, place):
        """Whether the image is clearly shorter than the one ahead, apart from those ahead of both."""
        part = self.parts[place][place - 1]
        return 100 * (self.areas[place + 1] * self.areas[place - 1] + part * part) < 99 * self.areas[place] ** 2

    def trade(self, place):
        """Swap the image with the one ahead."""
        free, images, parts, areas = self.frame.free, self.images, self.parts, self.areas
        free[place], free[place - 1] = free[place - 1], free[place]
        images[place], images[place - 1] = images[place - 1], images[place]
        part = parts[place][place - 1]
        parts[place - 1], parts[place] = parts[place][:-1], parts[place - 1] + [part]
        area = (areas[place - 1] * areas[place + 1] + part * part) // areas[place]
        for at in range(place + 1, len(parts)):
            later = parts[at]
            old = later[place]
            later[place] = (areas[place + 1] * later[place - 1] - part * old) // areas[place]
            later[place - 1] = (area * old + part * later[place]) // areas[place + 1]
        areas[place] = area
