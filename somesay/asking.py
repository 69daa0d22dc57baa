"""What is best asked next: the saying that splits worlds most evenly."""

from somesay.sayings import row_holds, rows_of


def split_by(worlds, saying):
    """In how many of the worlds the saying holds, and in how many it doesn't."""
    yes = held_in(worlds, saying).count(True)
    return (yes, len(worlds) - yes)


def held_in(worlds, saying):
    """For each world whether the saying holds in it."""
    if len(worlds) == 0:
        return []
    # All have as many cells, so the saying's rows, which are long to tell, are told once only.
    rows = rows_of(saying, len(worlds[0]).bit_length() - 1)
    return [all(row_holds(row, world) for row in rows) for world in worlds]


def best_ask(worlds, sayings):
    """(number, yes, no) of the first saying whose greater part is least, of those that hold in some and not in all."""
    best = None
    for number, saying in enumerate(sayings):
        yes, no = split_by(worlds, saying)
        if yes > 0 and no > 0 and (best is None or max(yes, no) < max(best[1], best[2])):
            best = (number, yes, no)
    return best


def ask_plan(worlds, sayings):
    """What is asked one after another, as best_ask tells, where the greater part is always the answer."""
    plan = []
    left = list(worlds)
    asked = best_ask(left, sayings)
    while asked is not None:
        number, yes, no = asked
        plan.append(asked)
        held = held_in(left, sayings[number])
        left = [world for world, so in zip(left, held) if so == (yes >= no)]
        asked = best_ask(left, sayings)
    return plan
