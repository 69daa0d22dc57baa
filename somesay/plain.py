"""What several files need of plain numbers and lists of them."""


def is_number(thing):
    # Python takes True and False for whole numbers; here they are none.
    return isinstance(thing, int) and not isinstance(thing, bool)


def is_counts(thing, size):
    """Whether it's a tuple or list of so many numbers, none below 0."""
    if not isinstance(thing, (tuple, list)) or len(thing) != size:
        return False
    return all(is_number(count) and count >= 0 for count in thing)


def weighed(numbers, counts):
    """The sum of each number times the count at its place."""
    return sum(number * count for number, count in zip(numbers, counts))


def common_factor(one, other):
    """The greatest number that divides both, neither below 0; of 0 and a number that number."""
    while other > 0:
        one, other = other, one % other
    return one


def lowest_terms(top, bottom):
    """The fraction, neither part below 0, with no common factor left."""
    factor = common_factor(top, bottom)
    return (top // factor, bottom // factor)


def lowered(numbers):
    """The numbers, none below 0 and some above it, without what divides all of them."""
    factor = 0
    for number in numbers:
        factor = common_factor(factor, number)
    return [number // factor for number in numbers]
