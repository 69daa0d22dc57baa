"""Clashes: few sayings that have no world, though they have one without any of them."""

from somesay.finding import world_of
from somesay.keeping import goes_by, rows_by_saying, without_rows
from somesay.papers import shows_paper
from somesay.plain import is_counts
from somesay.sayings import base_rows, is_world


def clash(many, most, sayings):
    """None where they have a world; else (numbers, paper, worlds) of those that clash."""
    kind, paper = world_of(many, most, sayings)
    if kind == "world":
        return None
    numbers = list(range(len(sayings)))
    worlds = []
    for at in reversed(range(len(sayings))):
        rows = rows_by_saying(chosen(sayings, numbers))[at]
        fewer = numbers[:at] + numbers[at + 1:]
        if not goes_by(paper, rows):
            # The same paper does without it.
            numbers, paper = fewer, without_rows(paper, rows)
            continue
        kind, found = world_of(many, most, chosen(sayings, fewer))
        if kind == "none":
            numbers, paper = fewer, found
        else:
            # Fewer sayings still hold in it when others are left out later.
            worlds.append(found)
    return (tuple(numbers), paper, worlds[::-1])


def chosen(sayings, numbers):
    return [sayings[number] for number in numbers]


def shows_clash(many, most, sayings, thing):
    """Whether it's such a tuple or list of numbers, a paper and worlds, whichever clash it is."""
    if not isinstance(thing, (tuple, list)) or len(thing) != 3:
        return False
    numbers, paper, worlds = thing
    if not is_rising(numbers, len(sayings)):
        return False
    if not isinstance(worlds, (tuple, list)) or len(worlds) != len(numbers):
        return False
    for at, world in enumerate(worlds):
        if not is_world(many, most, chosen(sayings, numbers[:at] + numbers[at + 1:]), world):
            return False
    return shows_paper(base_rows(many, most, chosen(sayings, numbers)), paper)


def is_rising(thing, size):
    """Whether it's a tuple or list of numbers, each greater than the one ahead, from 0 on and below size."""
    if not isinstance(thing, (tuple, list)) or not is_counts(thing, len(thing)):
        return False
    if any(one >= other for one, other in zip(thing, thing[1:])):
        return False
    return len(thing) == 0 or thing[-1] < size


def clashing_pairs(many, most, sayings):
    """The pairs of numbers of sayings that have no world together."""
    found = []
    for k in range(len(sayings)):
        for i in range(k):
            if world_of(many, most, [sayings[i], sayings[k]])[0] == "none":
                found.append((i, k))
    return sorted(found)
