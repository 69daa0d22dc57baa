"""Papers as texts, a row for each step, and papers read from texts."""

from somesay.errors import BadRow
from somesay.words import number_in, number_text

# What stands behind a step's times or cells: a word, and the number behind it with its least, if it has one.
ENDINGS = {
    "sum": (),
    "whole": (("by", 1), ("then", 0)),
    "cases": (("at", None), ("then", 0), ("or", 0)),
}


def paper_text(paper):
    """The text of a paper."""
    return "\n".join([step_text(step) for step in paper])


def step_text(step):
    words = [step[0]] + [number_text(number) for number in step[1]]
    for (word, least), number in zip(ENDINGS[step[0]], step[2:]):
        words.extend([word, number_text(number)])
    return " ".join(words)


def paper_in(text):
    """The list of steps that is so written; refused with BadRow."""
    steps = []
    for number, row in enumerate(text.split("\n")):
        step = step_in(row)
        if step is None:
            raise BadRow("no step is written so", number)
        steps.append(step)
    return steps


def step_in(row):
    """The step that is so written, None where there's none."""
    words = row.split(" ")
    kind = words[0]
    if kind not in ENDINGS:
        return None
    size = len(words) - 2 * len(ENDINGS[kind])
    if size < 2:
        return None
    numbers = numbers_in(words[1:size])
    more = ending_in(words[size:], ENDINGS[kind])
    if numbers is None or more is None:
        return None
    return (kind, tuple(numbers) if kind == "cases" else numbers, *more)


def numbers_in(words):
    """The numbers, none below 0, that are so written; None where one isn't."""
    numbers = [number_in(word) for word in words]
    return numbers if all(number is not None and number >= 0 for number in numbers) else None


def ending_in(words, ending):
    """The numbers behind the words of an ending, None where they aren't so written."""
    found = []
    for at, (word, least) in enumerate(ending):
        number = number_in(words[2 * at + 1])
        if words[2 * at] != word or number is None or (least is not None and number < least):
            return None
        found.append(number)
    return found
