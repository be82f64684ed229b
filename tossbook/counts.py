"""All plain patterns of a length with so many balls."""

from tossbook.errors import OutOfBounds
from tossbook.rows import is_between

LONGEST_LISTED = 6
MOST_BALLS_LISTED = 6


def one_throw_more(throws, length, total):
    """The throws with each further one that lands apart from them and takes them to no more than the total."""
    beat = len(throws)
    left = total - sum(throws)
    # The last throw is what is left of the total, and as that is a multiple of the length, it lands apart.
    if beat == length - 1:
        return [throws + [left]]
    taken = [(place + throw) % length for place, throw in enumerate(throws)]
    return [throws + [throw] for throw in range(left + 1) if (beat + throw) % length not in taken]


def patterns(length, balls):
    """The plain patterns of a length with so many balls, in the order of lists."""
    if not is_between(length, 1, LONGEST_LISTED):
        raise OutOfBounds("a length to list is a whole number from 1 to 6")
    if not is_between(balls, 0, MOST_BALLS_LISTED):
        raise OutOfBounds("balls to list are a whole number from 0 to 6")
    answer = [[]]
    for beat in range(length):
        longer = []
        # Each keeps its place among the others and is followed by its throws rising: so the order is that of lists.
        for throws in answer:
            longer.extend(one_throw_more(throws, length, length * balls))
        answer = longer
    return answer
