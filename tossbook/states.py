"""States, which tell when each ball lands, and the loops of throws that lead from a state back to it."""

from tossbook.errors import NoThrow, NotPlain, OutOfBounds
from tossbook.rows import check_pattern, is_between

GREATEST_THROW = 60


def lets(state, throw):
    """Whether a state lets a throw."""
    lands_now = state % 2 == 1
    if throw == 0:
        return not lands_now
    return lands_now and (state >> throw) % 2 == 0


def led_to(state, throw):
    """The state that a throw leads to from a state that lets it."""
    nearer = state >> 1
    if throw == 0:
        return nearer
    return nearer + (1 << (throw - 1))


def thrown(state, throw):
    """The state that a throw leads to."""
    if not is_between(state, 0, 2 ** 60 - 1):
        raise OutOfBounds("a state is a whole number from 0 to below 2 ** 60")
    if not is_between(throw, 0, GREATEST_THROW):
        raise OutOfBounds("a throw from a state is a whole number from 0 to 60")
    if not lets(state, throw):
        raise NoThrow("the state does not let the throw")
    return led_to(state, throw)


def check_plain(pattern):
    """Refuse what is no plain pattern with no throw above 60."""
    check_pattern(pattern)
    if min(pattern) < 0:
        raise NotPlain("a plain pattern has no throw below nought")
    if max(pattern) > GREATEST_THROW:
        raise OutOfBounds("a pattern with states has no throw above 60")


def first_state(pattern):
    """The state ahead of beat 0."""
    state = 0
    # A ball that was thrown longer ago than the greatest throw takes has landed.
    for ago in range(1, GREATEST_THROW + 1):
        throw = pattern[-ago % len(pattern)]
        if throw >= ago:
            state += 1 << (throw - ago)
    return state


def states_of(pattern):
    """The state ahead of each beat."""
    check_plain(pattern)
    state = first_state(pattern)
    answer = []
    for throw in pattern:
        answer.append(state)
        state = led_to(state, throw)
    return answer


def parted(pattern):
    """Least loops that have together each throw from each state as often as the pattern."""
    loops = []
    on_the_way = []
    throws = []
    for state, throw in zip(states_of(pattern), pattern):
        # From a state till it comes again is a least loop, as each loop within it was cut out when it closed.
        if state in on_the_way:
            first = on_the_way.index(state)
            loops.append((state, throws[first:]))
            on_the_way = on_the_way[:first]
            throws = throws[:first]
        on_the_way.append(state)
        throws.append(throw)
    loops.append((on_the_way[0], throws))
    return loops
