"""Numbers: tuples (top, bottom) of whole numbers in lowest terms, bottom from 1 on."""

from trussyard.errors import NoNumber

NOUGHT = (0, 1)
ONE = (1, 1)


def ratio_of(top, bottom=1):
    """The number that is top by bottom."""
    if not is_whole(top) or not is_whole(bottom):
        raise NoNumber("a number is made of whole numbers alone")
    if bottom == 0:
        raise NoNumber("a number's bottom can't be 0")
    return lowest_terms(top, bottom)


def sum_of(one, other):
    """One and other put together."""
    return lowest_terms(one[0] * other[1] + other[0] * one[1], one[1] * other[1])


def difference_of(one, other):
    """One less other."""
    return lowest_terms(one[0] * other[1] - other[0] * one[1], one[1] * other[1])


def product_of(one, other):
    """One times other."""
    return lowest_terms(one[0] * other[0], one[1] * other[1])


def quotient_of(one, other):
    """One by other."""
    if other[0] == 0:
        raise NoNumber("there is no quotient by nought")
    return lowest_terms(one[0] * other[1], one[1] * other[0])


def is_less(one, other):
    """True where one is below other, else False."""
    return one[0] * other[1] < other[0] * one[1]


def is_whole(value):
    """True where value is a whole number."""
    # Python counts its truths among the ints.
    return isinstance(value, int) and not isinstance(value, bool)


def lowest_terms(top, bottom):
    """Top by bottom, which is not 0, as a number."""
    shared = greatest_shared(top, bottom)
    if bottom < 0:
        # Dividing by it turns both signs, so that the bottom is above 0.
        shared = -shared
    return (top // shared, bottom // shared)


def greatest_shared(one, other):
    """The greatest whole number that divides both, of which one at most is 0."""
    while other != 0:
        left = one % other
        one = other
        other = left
    return abs(one)
