"""What DOC.md says, told once more and otherwise than the package does, and things to ask about."""

import random
from itertools import product
from math import gcd

A, B, C, D = (("is", k) for k in range(4))
ANY = ("any",)

KINDS = ("all", "notall", "some", "none", "least", "most", "just", "more", "asmany", "share", "under")


def cells(term, many):
    """The set of a term's cells."""
    every = set(range(2 ** many))
    if term[0] == "is":
        return {c for c in every if (c // 2 ** term[1]) % 2 == 1}
    if term[0] == "any":
        return every
    if term[0] == "not":
        return every - cells(term[1], many)
    if term[0] == "and":
        return cells(term[1], many) & cells(term[2], many)
    return cells(term[1], many) | cells(term[2], many)


def is_true(saying, world):
    """[4], kind by kind."""
    many = {2 ** k: k for k in range(8)}[len(world)]
    kind, s, p = saying[0], cells(saying[-2], many), cells(saying[-1], many)
    of_s, of_p = (sum(world[c] for c in x) for x in (s, p))
    both, apart = (sum(world[c] for c in x) for x in (s & p, s - p))
    if kind in ("share", "under"):
        enough = saying[2] * both >= saying[1] * of_s
        return enough if kind == "share" else not enough
    n = saying[1]
    return {
        "all": lambda: apart == 0,
        "notall": lambda: apart >= 1,
        "some": lambda: both >= 1,
        "none": lambda: both == 0,
        "least": lambda: both >= n,
        "most": lambda: both <= n,
        "just": lambda: both == n,
        "more": lambda: of_s > of_p,
        "asmany": lambda: of_s >= of_p,
    }[kind]()


def nots(term, times):
    """The term within so many nots."""
    for _ in range(times):
        term = ("not", term)
    return term


def full_term(deep, many):
    """A term so deep that has two terms at each place."""
    if deep == 1:
        return ("is", many - 1)
    return ("and" if deep % 2 else "or", full_term(deep - 1, many), ("not", full_term(deep - 2, many))
            if deep > 2 else ANY)


def some_term(rng, many, deep):
    kind = rng.choice(("is", "any")) if deep == 1 else rng.choice(("is", "is", "any", "not", "and", "or"))
    if kind == "is":
        return ("is", rng.randrange(many))
    if kind == "any":
        return ANY
    return (kind,) + tuple(some_term(rng, many, deep - 1) for _ in range(1 if kind == "not" else 2))


def some_saying(rng, many, deep=3, most=6):
    kind = rng.choice(KINDS)
    terms = (some_term(rng, many, deep), some_term(rng, many, deep))
    if kind in ("least", "most", "just"):
        return (kind, rng.randint(0, most)) + terms
    if kind in ("share", "under"):
        bottom = rng.randint(1, 12)
        return (kind, rng.randint(0, bottom), bottom) + terms
    return (kind,) + terms


def some_world(rng, many, most=40):
    counts = [0] * 2 ** many
    for _ in range(rng.randint(0, most)):
        counts[rng.randrange(2 ** many)] += 1
    return tuple(counts)


def worlds_of(many, most):
    """All worlds of so many classes, of at most so many things."""
    return [world for world in product(range(most + 1), repeat=2 ** many) if sum(world) <= most]


def sayings_of_each_kind(s=A, p=B):
    """At least one saying of each kind, with numbers from all over."""
    found = [(kind, s, p) for kind in KINDS if kind not in ("least", "most", "just", "share", "under")]
    found += [(kind, n, s, p) for kind in ("least", "most", "just") for n in (0, 1, 2, 3, 40, 41)]
    shares = ((0, 1), (1, 1), (0, 12), (12, 12), (1, 2), (2, 3), (3, 4), (5, 12))
    found += [(kind, top, bottom, s, p) for kind in ("share", "under") for top, bottom in shares]
    return found


def is_part(rows, parts):
    """Whether parts is a tuple of fractions in lowest terms, none below 0, by which all rows hold."""
    if not isinstance(parts, tuple) or len(parts) != len(rows[0][0]):
        return False
    for part in parts:
        if not isinstance(part, tuple) or [type(x) for x in part] != [int, int]:
            return False
        if part[1] < 1 or part[0] < 0 or gcd(part[0], part[1]) != 1:
            return False
    whole = 1
    for _, bottom in parts:
        whole *= bottom // gcd(whole, bottom)
    counts = [top * (whole // bottom) for top, bottom in parts]
    return all(sum(x * y for x, y in zip(numbers, counts)) >= least * whole for numbers, least in rows)


def is_sum(rows, times):
    """Whether times is a list by which the rows add up to what no counts can give."""
    if not isinstance(times, list) or [type(time) for time in times] != [int] * len(rows) or min(times) < 0:
        return False
    width = len(rows[0][0])
    numbers = [sum(time * row[0][k] for time, row in zip(times, rows)) for k in range(width)]
    return max(numbers) <= 0 < sum(time * row[1] for time, row in zip(times, rows))


def seeded(number):
    return random.Random(number)


def nested(inner, levels, box):
    """The thing within so many lists or tuples of one."""
    for _ in range(levels):
        inner = box([inner])
    return inner


ODD_THINGS = [
    None, True, False, 0, 1, -1, 41, 10 ** 30, "", "is", "any", "all", "x", (), [], ((),), [[]], ([],), [()],
    (None,), (True,), (0,), ("",), (0, 0), ("is",), ("any", 0), ("not",), ("and",), (("is", 0),), (["is"], 0),
    (("is",), 0), ((("is", 0),),), [("is", 0)], ["any"], ["is", 0], ["not", ("any",)], ["all", ("any",), ("any",)],
    nested("any", 9, lambda x: tuple(x)), nested("any", 9, lambda x: list(x)), nested(None, 9, lambda x: ("not", x[0])),
]
