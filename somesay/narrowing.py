"""Papers narrowed: where the rows of a paper's steps come from, and the paper for those sayings alone that it uses."""

from somesay.keeping import goes_by, rows_by_saying, without_rows
from somesay.papers import named_by


def sources(many, most, sayings, paper):
    """For each step of a paper for base_rows the list of where the rows that it goes by come from."""
    first = [("most",)]
    for number, rows in enumerate(rows_by_saying(sayings)):
        first.extend([("saying", number, at) for at in range(len(rows))])
    found = [first]
    ahead = {}
    for number, step in enumerate(paper):
        if number > 0:
            found.append(found[ahead[number]] + [("step", ahead[number])])
        for named in named_by(step):
            ahead[named] = number
    return found


def used_sayings(many, most, sayings, paper):
    """The numbers of the sayings of which a row has a time above 0 in some step."""
    return tuple([number for number, rows in enumerate(rows_by_saying(sayings)) if goes_by(paper, rows)])


def narrowed(many, most, sayings, paper):
    """The numbers of the sayings that are used, and the paper for base_rows of these alone."""
    used = used_sayings(many, most, sayings, paper)
    by_saying = rows_by_saying(sayings)
    unused = [row for number, rows in enumerate(by_saying) if number not in used for row in rows]
    return (used, without_rows(paper, unused))
