"""Swaps of two beats of a pattern, and how many of them a pattern is away from the even one."""

from tossbook.errors import OutOfBounds
from tossbook.joining import within_bounds
from tossbook.rows import check_pattern, is_between

MOST_SWAPS = 1000


def check_beat(value, length):
    """Refuse what is no beat from 0 to below the length."""
    if not is_between(value, 0, length - 1):
        raise OutOfBounds("no beat from 0 to below the length")


def crosswise(throws, one, other):
    """The throws where each of two beats lands where the other did; the other may be of the next time round."""
    place = other % len(throws)
    answer = list(throws)
    answer[one] = other + throws[place] - one
    answer[place] = one + throws[one] - other
    return answer


def swapped(pattern, i, j):
    """The pattern where each of the beats i and j lands where the other did."""
    check_pattern(pattern)
    check_beat(i, len(pattern))
    check_beat(j, len(pattern))
    if i >= j:
        raise OutOfBounds("the first beat of a swap is ahead of the second one")
    return within_bounds(crosswise(pattern, i, j))


def neighbours(pattern, k):
    """The pattern where each of the beats k and k + 1 lands where the other did."""
    check_pattern(pattern)
    check_beat(k, len(pattern))
    if len(pattern) < 2:
        raise OutOfBounds("a pattern of one throw has no neighbours")
    return within_bounds(crosswise(pattern, k, k + 1))


def times_crossed(pattern, first, second):
    """How often the throw of the first beat lands behind a later one of the second beat, at whatever time round."""
    length = len(pattern)
    # A throw that is n longer lands behind those that are thrown less than n beats later.
    last = first + pattern[first] - pattern[second] - 1
    return max(0, (last - second) // length - (first - second) // length)


def crossings(pattern):
    """How many crossings a pattern has."""
    check_pattern(pattern)
    many = 0
    for first in range(len(pattern)):
        for second in range(len(pattern)):
            many += times_crossed(pattern, first, second)
    return many


def crossing_place(throws):
    """The least beat whose throw lands behind that of the next beat, or None of an even pattern."""
    for beat, throw in enumerate(throws):
        if throw > throws[(beat + 1) % len(throws)] + 1:
            return beat
    return None


def from_even(pattern):
    """The places of the fewest neighbours' swaps, in order, that make the pattern of the even one."""
    if crossings(pattern) > MOST_SWAPS:
        raise OutOfBounds("more than 1000 crossings")
    places = []
    throws = pattern
    place = crossing_place(throws)
    # A crossing undone brings its two throws nearer to one another, so no pattern on the way leaves the bounds.
    while place is not None:
        places.append(place)
        throws = crosswise(throws, place, place + 1)
        place = crossing_place(throws)
    return list(reversed(places))
