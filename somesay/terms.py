"""Terms: which of the mixed classes, the cells, a thing may be of."""

from somesay.plain import is_number

DEEPEST = 8
PARTS = {"not": 1, "and": 2, "or": 2}


def cell_count(many):
    return 1 << many


def is_term(thing, many):
    """Whether it's a term of so many classes, at most eight deep."""
    return is_term_within(thing, many, DEEPEST)


def is_term_within(thing, many, deep):
    if deep == 0 or not isinstance(thing, tuple) or len(thing) == 0:
        return False
    head = thing[0]
    # Any thing may stand here, also a list, which no dict can be asked for.
    if not isinstance(head, str):
        return False
    if head == "is":
        return len(thing) == 2 and is_number(thing[1]) and 0 <= thing[1] < many
    if head == "any":
        return len(thing) == 1
    if head not in PARTS or len(thing) != 1 + PARTS[head]:
        return False
    return all(is_term_within(part, many, deep - 1) for part in thing[1:])


def is_of(term, cell):
    """Whether the things of a cell are of the term."""
    head = term[0]
    if head == "is":
        return (cell >> term[1]) % 2 == 1
    if head == "any":
        return True
    if head == "not":
        return not is_of(term[1], cell)
    if head == "and":
        return is_of(term[1], cell) and is_of(term[2], cell)
    return is_of(term[1], cell) or is_of(term[2], cell)


def cells_of(term, many):
    """The rising tuple of the cells whose things are of the term."""
    return tuple([cell for cell in range(cell_count(many)) if is_of(term, cell)])


def parts_of(term):
    """The terms that stand directly in a term."""
    if term[0] in PARTS:
        return list(term[1:])
    return []


def depth_of(term):
    return 1 + max([depth_of(part) for part in parts_of(term)], default=0)


def classes_in(term):
    """The rising list of the classes that a term names, each once."""
    return sorted(set(class_names(term)))


def class_names(term):
    if term[0] == "is":
        return [term[1]]
    return [name for part in parts_of(term) for name in class_names(part)]
