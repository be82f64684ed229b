"""Rows of throws, which of them are patterns, and how many balls these have."""

from tossbook.errors import Clash, NotARow, OutOfBounds

LONGEST_ROW = 60
FARTHEST_THROW = 1000000


def is_whole(value):
    """Whether a value is a whole number."""
    # Python counts True and False as int; here they are nowhere whole numbers.
    return isinstance(value, int) and not isinstance(value, bool)


def is_between(value, least, most):
    """Whether a value is a whole number from least to most."""
    return is_whole(value) and least <= value <= most


def is_throw(value):
    """Whether a value is a whole number within the bounds of a throw."""
    return is_between(value, -FARTHEST_THROW, FARTHEST_THROW)


# The words of a refusal leave out the value itself: Python won't write a number of very many digits.
def check_throw(value):
    """Refuse what is no whole number within the bounds of a throw."""
    if not is_throw(value):
        raise OutOfBounds("no whole number from -1000000 to 1000000")


def check_row(row):
    """Refuse what is no row of throws."""
    if not isinstance(row, list):
        raise NotARow("a row is a list")
    if not 1 <= len(row) <= LONGEST_ROW:
        raise NotARow("a row has 1 to 60 throws")
    if not all([is_throw(throw) for throw in row]):
        raise NotARow("a throw is a whole number from -1000000 to 1000000")


def check_pattern(pattern):
    """Refuse what is no row, then what is no pattern."""
    pair = clash_of(pattern)
    if pair is not None:
        raise Clash(pair)


def landings(row):
    """For each beat of a row what the landing of its throw leaves by the length."""
    return [(beat + throw) % len(row) for beat, throw in enumerate(row)]


def clash_of(row):
    """The clash of a row, a pair of beats, or None of a pattern."""
    check_row(row)
    taken = {}
    for beat, landing in enumerate(landings(row)):
        if landing in taken:
            return (taken[landing], beat)
        taken[landing] = beat
    return None


def balls_of(pattern):
    """How many balls a pattern has."""
    check_pattern(pattern)
    return sum(pattern) // len(pattern)


def even(length, balls):
    """The pattern of so many throws that are all alike."""
    if not is_between(length, 1, LONGEST_ROW):
        raise OutOfBounds("a length is a whole number from 1 to 60")
    check_throw(balls)
    return [balls] * length
