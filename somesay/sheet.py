"""Sheets: texts of what is said, taken back and asked, row by row, and the answers to them."""

from somesay.errors import BadRow, BadText, NoLabel, Taken, TooMany
from somesay.following import follows
from somesay.least import greatest_count, least_count
from somesay.talk import Talk
from somesay.texts import saying_of, term_of
from somesay.words import is_label, is_name, number_within

MOST_ROWS = 120
MOST_SIGNS = 300
MOST_THINGS = 40
MOST_CLASSES = 4
ALONE = ("world", "fewest", "clash", "labels")
OF_SAYINGS = ("follows", "settled", "why")


def rows_in(text):
    """What each row that isn't empty says: first (most, names), then the orders.

    No word of a sheet has a sign that may not stand in one, so other signs need no look of their own.
    """
    rows = text.split("\n")
    found = []
    for number, row in enumerate(rows):
        if number >= MOST_ROWS or len(row) > MOST_SIGNS:
            raise BadRow("a sheet has fewer and shorter rows", number)
        if row == "":
            continue
        told = order_in(row, found[0][1]) if found else heading_in(row)
        if told is None:
            raise BadRow("the row isn't written as one of a sheet", number)
        found.append(told)
    if not found:
        raise BadRow("there is no row but empty ones", len(rows))
    return found


def heading_in(row):
    """(most, names) of the first row, None where it isn't so written."""
    word, *words = row.split(" ")
    names = words[1:]
    if word != "classes" or not 1 <= len(names) <= MOST_CLASSES:
        return None
    most = number_within(words[0], 0, MOST_THINGS)
    if most is None or len(set(names)) < len(names) or not all(is_name(name) for name in names):
        return None
    return (most, names)


def order_in(row, names):
    """An event or ask: (word, what stands behind ..), None where it isn't so written."""
    try:
        return plain_order(row, names)
    except BadText:
        return None


def plain_order(row, names):
    """The same, but wrong sayings and terms are refused with BadText."""
    if row in ALONE:
        return (row,)
    word, blank, rest = row.partition(" ")
    if word in OF_SAYINGS:
        return (word, saying_of(rest, names))
    if word == "count":
        return (word, term_of(rest, names))
    if word == "back":
        return (word, rest) if is_label(rest) else None
    label, blank, text = rest.partition(" ")
    if word == "say" and is_label(label):
        return (word, label, saying_of(text, names))
    return None


def answer_say(talk, label, saying):
    try:
        return talk.say(label, saying)
    except Taken:
        return "refused Taken"
    except TooMany:
        return "refused TooMany"


def answer_back(talk, label):
    try:
        return talk.take_back(label)
    except NoLabel:
        return "refused NoLabel"


def answer_follows(talk, saying):
    kind, found = follows(talk.many, talk.most, talk.sayings_now(), saying)
    return "yes" if kind == "yes" else f"no {counts_text(found)}"


def answer_settled(talk, saying):
    return talk.settles(saying)


def answer_why(talk, saying):
    labels = talk.whys(saying)
    return "no" if labels is None else by_text(labels)


def answer_world(talk):
    world = talk.a_world()
    return "none" if world is None else counts_text(world)


def answer_fewest(talk):
    fewest = talk.fewest_now()
    return "none" if fewest is None else str(fewest)


def answer_clash(talk):
    labels = talk.clash_now()
    return "none" if labels is None else by_text(labels)


def answer_count(talk, term):
    sayings = talk.sayings_now()
    least = least_count(talk.many, talk.most, sayings, term)
    if least is None:
        return "none"
    return f"{least} {greatest_count(talk.many, talk.most, sayings, term)}"


def answer_labels(talk):
    labels = talk.labels()
    return " ".join(labels) if labels else "-"


def counts_text(world):
    return " ".join([str(count) for count in world])


def by_text(labels):
    return " ".join(["by"] + labels)


ANSWERS = {
    "say": answer_say,
    "back": answer_back,
    "follows": answer_follows,
    "settled": answer_settled,
    "why": answer_why,
    "world": answer_world,
    "fewest": answer_fewest,
    "clash": answer_clash,
    "count": answer_count,
    "labels": answer_labels,
}


def run(text):
    """The list of answers to the rows of a sheet; refused with BadRow."""
    # All rows are read ahead of the first answer, so a wrong one is refused whatever stands ahead of it.
    heading, *orders = rows_in(text)
    talk = Talk(len(heading[1]), heading[0])
    answers = []
    for word, *parts in orders:
        answer = ANSWERS[word]
        answers.append(answer(talk, *parts))
    return answers
