"""What follows from sayings, what doesn't, and by which of them."""

from somesay.finding import world_of
from somesay.keeping import goes_by, rows_by_saying, without_rows
from somesay.papers import shows_paper
from somesay.sayings import base_rows, holds, opposites


def follows(many, most, sayings, saying):
    """("yes", papers), one for each opposite of the saying, or ("no", world) in which it doesn't hold."""
    papers = []
    for opposite in opposites(saying):
        kind, found = world_of(many, most, list(sayings) + [opposite])
        if kind == "world":
            return ("no", found)
        papers.append(found)
    return ("yes", papers)


def shows_follows(many, most, sayings, saying, papers):
    """Whether it's such a list of papers."""
    against = opposites(saying)
    if not isinstance(papers, (tuple, list)) or len(papers) != len(against):
        return False
    for opposite, paper in zip(against, papers):
        if not shows_paper(base_rows(many, most, list(sayings) + [opposite]), paper):
            return False
    return True


def settled(many, most, sayings, saying):
    """Whether the sayings "clash", or the saying follows, "yes", holds in none of their worlds, "no", or is "open"."""
    kind, found = world_of(many, most, sayings)
    if kind == "none":
        return "clash"
    if holds(saying, found):
        return "yes" if follows(many, most, sayings, saying)[0] == "yes" else "open"
    return "no" if world_of(many, most, list(sayings) + [saying])[0] == "none" else "open"


def needed_for(many, most, sayings, saying):
    """The numbers of sayings from which it follows as well, each left out, from the last on, that can be; or None."""
    kind, papers = follows(many, most, sayings, saying)
    if kind == "no":
        return None
    numbers = list(range(len(sayings)))
    for at in reversed(range(len(sayings))):
        rows = rows_by_saying([sayings[number] for number in numbers])[at]
        fewer = numbers[:at] + numbers[at + 1:]
        if not any(goes_by(paper, rows) for paper in papers):
            # The same papers do without it.
            numbers, papers = fewer, [without_rows(paper, rows) for paper in papers]
            continue
        kind, found = follows(many, most, [sayings[number] for number in fewer], saying)
        if kind == "yes":
            numbers, papers = fewer, found
    return tuple(numbers)
