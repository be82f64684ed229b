"""Patterns made of other patterns, and the rounds that a pattern falls into."""

from tossbook.errors import OtherLength
from tossbook.rows import check_pattern, check_throw, landings


def within_bounds(throws):
    """The throws as they are, unless one is beyond the bounds."""
    for throw in throws:
        check_throw(throw)
    return throws


def after(one, other):
    """At each beat the throw of one and, from where it lands, that of the other, as one throw."""
    check_pattern(one)
    check_pattern(other)
    if len(one) != len(other):
        raise OtherLength("the two patterns have unlike lengths")
    return within_bounds([throw + other[landing] for throw, landing in zip(one, landings(one))])


def back(pattern):
    """From where each throw lands, back to where it came from."""
    check_pattern(pattern)
    throws = list(pattern)
    for throw, landing in zip(pattern, landings(pattern)):
        throws[landing] = -throw
    return throws


def turned(pattern, k):
    """The pattern that begins with the throw of beat k."""
    check_pattern(pattern)
    check_throw(k)
    length = len(pattern)
    return [pattern[(k + beat) % length] for beat in range(length)]


def lifted(pattern, k):
    """Each throw k more."""
    check_pattern(pattern)
    check_throw(k)
    return within_bounds([throw + k for throw in pattern])


def mirrored(pattern):
    """Each throw as far, from the opposite of where it landed to the opposite of where it was thrown."""
    check_pattern(pattern)
    throws = list(pattern)
    for throw, landing in zip(pattern, landings(pattern)):
        throws[-landing % len(pattern)] = throw
    return throws


def gaps(pattern, h):
    """At each beat h less the throw at the opposite beat."""
    check_pattern(pattern)
    check_throw(h)
    length = len(pattern)
    return within_bounds([h - pattern[-beat % length] for beat in range(length)])


def beats_round(onward, first):
    """The beats from the first one along, till it comes again."""
    beats = [first]
    beat = onward[first]
    while beat != first:
        beats.append(beat)
        beat = onward[beat]
    return beats


def rounds(pattern):
    """The pattern's rounds, each a pair of its beats and its balls, the least first beat first."""
    check_pattern(pattern)
    onward = landings(pattern)
    told = {}
    answer = []
    for first in range(len(pattern)):
        if first not in told:
            beats = beats_round(onward, first)
            for beat in beats:
                told[beat] = True
            answer.append((beats, sum([pattern[beat] for beat in beats]) // len(pattern)))
    return answer
