"""What DOC.md says, told once more and otherwise than the package does, and things to ask about."""

import random
from itertools import product
from math import gcd

from somesay.papers import shows_paper

A, B, C, D = (("is", k) for k in range(4))
ANY = ("any",)

KINDS = ("all", "notall", "some", "none", "least", "most", "just", "more", "asmany", "share", "under")


def cells(term, many):
    """The set of a term's cells."""
    every = set(range(2 ** many))
    if term[0] == "is":
        return {c for c in every if (c // 2 ** term[1]) % 2 == 1}
    if term[0] == "any":
        return every
    if term[0] == "not":
        return every - cells(term[1], many)
    if term[0] == "and":
        return cells(term[1], many) & cells(term[2], many)
    return cells(term[1], many) | cells(term[2], many)


def is_true(saying, world):
    """[4], kind by kind."""
    many = {2 ** k: k for k in range(8)}[len(world)]
    kind, s, p = saying[0], cells(saying[-2], many), cells(saying[-1], many)
    of_s, of_p = (sum(world[c] for c in x) for x in (s, p))
    both, apart = (sum(world[c] for c in x) for x in (s & p, s - p))
    if kind in ("share", "under"):
        enough = saying[2] * both >= saying[1] * of_s
        return enough if kind == "share" else not enough
    n = saying[1]
    return {
        "all": lambda: apart == 0,
        "notall": lambda: apart >= 1,
        "some": lambda: both >= 1,
        "none": lambda: both == 0,
        "least": lambda: both >= n,
        "most": lambda: both <= n,
        "just": lambda: both == n,
        "more": lambda: of_s > of_p,
        "asmany": lambda: of_s >= of_p,
    }[kind]()


def nots(term, times):
    """The term within so many nots."""
    for _ in range(times):
        term = ("not", term)
    return term


def full_term(deep, many):
    """A term so deep that has two terms at each place."""
    if deep == 1:
        return ("is", many - 1)
    return ("and" if deep % 2 else "or", full_term(deep - 1, many), ("not", full_term(deep - 2, many))
            if deep > 2 else ANY)


def some_term(rng, many, deep):
    kind = rng.choice(("is", "any")) if deep == 1 else rng.choice(("is", "is", "any", "not", "and", "or"))
    if kind == "is":
        return ("is", rng.randrange(many))
    if kind == "any":
        return ANY
    return (kind,) + tuple(some_term(rng, many, deep - 1) for _ in range(1 if kind == "not" else 2))


def some_saying(rng, many, deep=3, most=6):
    kind = rng.choice(KINDS)
    terms = (some_term(rng, many, deep), some_term(rng, many, deep))
    if kind in ("least", "most", "just"):
        return (kind, rng.randint(0, most)) + terms
    if kind in ("share", "under"):
        bottom = rng.randint(1, 12)
        return (kind, rng.randint(0, bottom), bottom) + terms
    return (kind,) + terms


def some_world(rng, many, most=40):
    counts = [0] * 2 ** many
    for _ in range(rng.randint(0, most)):
        counts[rng.randrange(2 ** many)] += 1
    return tuple(counts)


def worlds_of(many, most):
    """All worlds of so many classes, of at most so many things."""
    return [world for world in product(range(most + 1), repeat=2 ** many) if sum(world) <= most]


def sayings_of_each_kind(s=A, p=B):
    """At least one saying of each kind, with numbers from all over."""
    found = [(kind, s, p) for kind in KINDS if kind not in ("least", "most", "just", "share", "under")]
    found += [(kind, n, s, p) for kind in ("least", "most", "just") for n in (0, 1, 2, 3, 40, 41)]
    shares = ((0, 1), (1, 1), (0, 12), (12, 12), (1, 2), (2, 3), (3, 4), (5, 12))
    found += [(kind, top, bottom, s, p) for kind in ("share", "under") for top, bottom in shares]
    return found


def is_part(rows, parts):
    """Whether parts is a tuple of fractions in lowest terms, none below 0, by which all rows hold."""
    if not isinstance(parts, tuple) or len(parts) != len(rows[0][0]):
        return False
    for part in parts:
        if not isinstance(part, tuple) or [type(x) for x in part] != [int, int]:
            return False
        if part[1] < 1 or part[0] < 0 or gcd(part[0], part[1]) != 1:
            return False
    whole = 1
    for _, bottom in parts:
        whole *= bottom // gcd(whole, bottom)
    counts = [top * (whole // bottom) for top, bottom in parts]
    return all(sum(x * y for x, y in zip(numbers, counts)) >= least * whole for numbers, least in rows)


def is_sum(rows, times):
    """Whether times is a list by which the rows add up to what no counts can give."""
    if not isinstance(times, list) or [type(time) for time in times] != [int] * len(rows) or min(times) < 0:
        return False
    width = len(rows[0][0])
    numbers = [sum(time * row[0][k] for time, row in zip(times, rows)) for k in range(width)]
    return max(numbers) <= 0 < sum(time * row[1] for time, row in zip(times, rows))


def is_paper(rows, paper):
    """[8], step by step, of a told paper: a list of tuples, times lists, cells tuples."""
    if type(paper) is not list or not paper:
        return False
    going = {0: [(tuple(numbers), least) for numbers, least in rows]}
    for at, step in enumerate(paper):
        here = going.get(at)
        if here is None or type(step) is not tuple:
            return False
        behind = rows_put_behind(here, step)
        if behind is None:
            return False
        for name, row in behind:
            if type(name) is not int or name <= at or name in going:
                return False
            going[name] = here + [row]
        going[at] = None
    return sorted(going) == list(range(len(paper)))


def rows_put_behind(rows, step):
    """Pairs (number of a step, row that it gets), None where the step isn't one."""
    width = len(rows[0][0])
    if step[0] == "sum":
        return [] if len(step) == 2 and is_sum(rows, step[1]) else None
    if step[0] == "whole" and len(step) == 4:
        times, divisor = step[1], step[2]
        if type(times) is not list or [type(x) for x in times] != [int] * len(rows) or min(times) < 0:
            return None
        if type(divisor) is not int or divisor < 1:
            return None
        numbers = tuple(up(sum(t * row[0][k] for t, row in zip(times, rows)), divisor) for k in range(width))
        return [(step[3], (numbers, up(sum(t * row[1] for t, row in zip(times, rows)), divisor)))]
    if step[0] == "cases" and len(step) == 5:
        cells_in, n = step[1], step[2]
        if type(cells_in) is not tuple or not cells_in or type(n) is not int:
            return None
        if any(type(c) is not int or not 0 <= c < width or cells_in.count(c) > 1 for c in cells_in):
            return None
        numbers = tuple(1 if c in cells_in else 0 for c in range(width))
        return [(step[3], (tuple(-x for x in numbers), -n)), (step[4], (numbers, n + 1))]
    return None


def up(number, divisor):
    """The least whole number that isn't below number / divisor."""
    whole = number // divisor
    return whole if whole * divisor == number else whole + 1


def row_is_true(row, world):
    return sum(x * y for x, y in zip(row[0], world)) >= row[1]


def told_kind(test, rows, told):
    """Which kind world_or_paper tells of these rows; the world or paper that it tells is held against them."""
    test.assertIs(type(told), tuple)
    kind, found = told
    if kind == "world":
        test.assertIs(type(found), tuple)
        test.assertEqual([type(count) for count in found], [int] * len(rows[0][0]))
        test.assertTrue(min(found) >= 0 and all(row_is_true(row, found) for row in rows), (rows, told))
    else:
        test.assertEqual(kind, "none")
        test.assertTrue(is_paper(rows, found), (rows, told))
        test.assertIs(shows_paper(rows, found), True)
    return kind


def only_of(*terms):
    """For each two of the terms the saying that no thing is of both."""
    return [("none", one, other) for k, one in enumerate(terms) for other in terms[:k]]


NOT_A = ("not", A)
# (many, most, sayings) that have no world, though counts in fractions would do.
BY_FRACTIONS = [
    # Halves of an odd count, thirds of 10, twelfths of 40.
    (1, 40, [("just", 5, ANY, ANY), ("share", 1, 2, ANY, A), ("share", 1, 2, ANY, NOT_A)]),
    (4, 40, [("just", 39, ANY, C), ("share", 6, 12, C, D), ("share", 6, 12, C, ("not", D))]),
    (1, 10, [("just", 10, ANY, ANY), ("share", 1, 3, ANY, A), ("share", 2, 3, ANY, NOT_A)]),
    (2, 40, [("just", 40, B, B), ("share", 5, 12, B, A), ("share", 7, 12, B, NOT_A)]),
    # Shares that need more things than there may be.
    (2, 6, [("some", ANY, ANY), ("share", 3, 7, ANY, A), ("share", 4, 7, ANY, NOT_A)]),
    (2, 24, [("some", A, A), ("share", 3, 5, A, B), ("share", 2, 5, A, ("not", B)), ("share", 2, 7, B, A),
             ("share", 5, 7, B, NOT_A)]),
    (3, 3, [("under", 4, 5, C, NOT_A), ("share", 4, 5, ANY, NOT_A)]),
    # As many of each round about, of 4 things.
    (3, 40, only_of(A, B, C) + [("asmany", A, B), ("asmany", B, C), ("asmany", C, A), ("just", 4, ("or", A, ("or", B, C)), ANY)]),
    # More of these than of those, and by one only: 4 things in all.
    (3, 40, only_of(A, B, C) + [("just", 1, C, C), ("just", 4, ("or", A, B), ANY), ("more", A, B), ("asmany", ("or", B, C), A)]),
    # Just one thing of each two of three.
    (3, 40, only_of(A, B, C) + [("just", 1, ("or", A, B), ANY), ("just", 1, ("or", B, C), ANY), ("just", 1, ("or", A, C), ANY)]),
]


def counts_of(width, most):
    """All tuples of so many counts, of at most so many things."""
    return [counts for counts in product(range(most + 1), repeat=width) if sum(counts) <= most]


def sayings_near(rng, many, most, wanted):
    """Sayings that counts in fractions make hold, often with nothing left over; often no world does."""
    bottom = rng.choice((2, 2, 3, 4, 5, 6))
    tops = [rng.choice((0, rng.randint(0, 4 * bottom))) for _ in range(2 ** many)]
    while sum(tops) > most * bottom:
        tops[rng.randrange(2 ** many)] //= 2
    found = []
    for _ in range(40 * wanted):
        if len(found) < wanted:
            found += saying_near(rng, many, tops, bottom, wanted - len(found))
    return found


def saying_near(rng, many, tops, bottom, room):
    s, p = some_term(rng, many, rng.randint(1, 4)), some_term(rng, many, rng.randint(1, 4))
    of_s, of_p = cells(s, many), cells(p, many)
    both, all_s, all_p = (sum(tops[c] for c in x) for x in (of_s & of_p, of_s, of_p))
    kind = rng.choice(("just", "just", "shares", "shares", "share", "count", "more"))
    if kind == "just" and both % bottom == 0:
        return [("just", both // bottom, s, p)]
    if kind == "shares" and room >= 2 and 0 < both < all_s:
        top, low = both // gcd(both, all_s), all_s // gcd(both, all_s)
        if low <= 12:
            return [("share", top, low, s, p), ("share", low - top, low, s, ("not", p))]
    if kind == "share" and all_s > 0:
        low = rng.randint(1, 12)
        return [("share", low * both // all_s, low, s, p)]
    if kind == "count":
        return [rng.choice((("least", both // bottom, s, p), ("most", up(both, bottom), s, p)))]
    if kind == "more" and all_s >= all_p:
        return [("more" if all_s - all_p >= bottom else "asmany", s, p)]
    return []


def rows_near(rng, width, many, size, most):
    """Rows, the first one of at most so many things, that some counts in fractions make hold with little left over."""
    bottom = rng.choice((2, 3, 5, 7))
    tops = [rng.randint(0, 2 * most * bottom // width) for _ in range(width)]
    if sum(tops) > most * bottom:
        tops = [top * most * bottom // sum(tops) for top in tops]
    rows = [((-1,) * width, -most)]
    while len(rows) < many:
        numbers = tuple(rng.randint(-size, size) for _ in range(width))
        least = sum(x * y for x, y in zip(numbers, tops)) // bottom
        if abs(least) < 10 ** 7:
            rows.append((numbers, least))
    return rows


def both_ways(rows):
    """The rows as equal to their leasts."""
    return [way for numbers, least in rows for way in ((numbers, least), (tuple(-x for x in numbers), -least))]


def seeded(number):
    return random.Random(number)


def nested(inner, levels, box):
    """The thing within so many lists or tuples of one."""
    for _ in range(levels):
        inner = box([inner])
    return inner


ODD_THINGS = [
    None, True, False, 0, 1, -1, 41, 10 ** 30, "", "is", "any", "all", "x", (), [], ((),), [[]], ([],), [()],
    (None,), (True,), (0,), ("",), (0, 0), ("is",), ("any", 0), ("not",), ("and",), (("is", 0),), (["is"], 0),
    (("is",), 0), ((("is", 0),),), [("is", 0)], ["any"], ["is", 0], ["not", ("any",)], ["all", ("any",), ("any",)],
    nested("any", 9, lambda x: tuple(x)), nested("any", 9, lambda x: list(x)), nested(None, 9, lambda x: ("not", x[0])),
]
