"""Least worlds, all small ones, and how few and how many things of a term there are in worlds of sayings."""

from somesay.finding import world_of
from somesay.papers import shows_paper
from somesay.sayings import base_rows, is_world, row_holds
from somesay.terms import cell_count, cells_of


def fewest_things(many, most, sayings):
    """The least number of things of their worlds, None where they have none."""
    told = least_world(many, most, sayings)
    return sum(told[1]) if told[0] == "world" else None


def least_world(many, most, sayings):
    """("world", world, paper): one of so few things, and why none has fewer; ("none", paper) where they have none."""
    kind, found = world_of(many, most, sayings)
    if kind == "none":
        return ("none", found)
    world, paper = found, None
    # No world has so many things or fewer; the gap is halved till nothing is left between.
    too_few = -1
    while sum(world) - too_few > 1:
        middle = (sum(world) + too_few) // 2
        kind, found = world_of(many, middle, sayings)
        if kind == "world":
            world = found
        else:
            too_few, paper = middle, found
    return ("world", world, paper)


def shows_least(many, most, sayings, world, paper):
    """Whether world is one of theirs, and paper shows that none has fewer things."""
    if not is_world(many, most, sayings, world):
        return False
    things = sum(world)
    if things == 0:
        return paper is None
    return shows_paper(base_rows(many, things - 1, sayings), paper)


def all_worlds(many, most, sayings):
    """The rising list of all their worlds of at most so many things."""
    rows = base_rows(many, most, sayings)
    begun = [((), most)]
    for cell in range(cell_count(many)):
        begun = [(counts + (count,), left - count) for counts, left in begun for count in range(left + 1)]
    return [world for world, left in begun if all(row_holds(row, world) for row in rows)]


def least_count(many, most, sayings, term):
    """The least number of things of a term in their worlds, None where they have none."""
    return count_towards(many, most, sayings, term, "most", -1)


def greatest_count(many, most, sayings, term):
    """The greatest number of things of a term in their worlds, None where they have none."""
    return count_towards(many, most, sayings, term, "least", most + 1)


def count_towards(many, most, sayings, term, kind, beyond):
    """The count of a term's things that is nearest to beyond, which none is; kind says that it's as near at least."""
    told, found = world_of(many, most, sayings)
    if told == "none":
        return None
    cells = cells_of(term, many)
    count = things_in(found, cells)
    while abs(beyond - count) > 1:
        middle = (count + beyond) // 2
        told, found = world_of(many, most, list(sayings) + [(kind, middle, term, term)])
        if told == "world":
            count = things_in(found, cells)
        else:
            beyond = middle
    return count


def things_in(world, cells):
    return sum(world[cell] for cell in cells)
