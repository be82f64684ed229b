"""The shortest ways from state to state where no throw is above a greatest one."""

from tossbook.errors import OutOfBounds
from tossbook.rows import is_between
from tossbook.states import led_to, lets


def check_greatest(most):
    """Refuse what is no greatest throw."""
    if not is_between(most, 1, 10):
        raise OutOfBounds("a greatest throw is a whole number from 1 to 10")


def check_state(state, most):
    """Refuse what is no state under a greatest throw."""
    if not is_between(state, 0, (1 << most) - 1):
        raise OutOfBounds("no state under the greatest throw")


def states_ahead(state, most):
    """The states from which one throw leads to a state."""
    ahead = [state << 1]
    for throw in range(1, most + 1):
        ball = 1 << (throw - 1)
        if state & ball != 0:
            ahead.append(((state - ball) << 1) + 1)
    return [one for one in ahead if one < 1 << most]


def distances(state, most):
    """For each state of as many balls how many throws a shortest way from it to the state has, the states rising."""
    check_greatest(most)
    check_state(state, most)
    far = {state: 0}
    farthest = [state]
    while farthest:
        farther = []
        for one in farthest:
            for ahead in states_ahead(one, most):
                if ahead not in far:
                    far[ahead] = far[one] + 1
                    farther.append(ahead)
        farthest = farther
    return dict([(one, far[one]) for one in sorted(far)])


def nearer_throw(state, far, most):
    """The least throw that leads from a state to one that is nearer."""
    throws = [throw for throw in range(most + 1) if lets(state, throw)]
    return min([throw for throw in throws if far[led_to(state, throw)] < far[state]])


def way(one, other, most):
    """The throws of a shortest way from one state to the other."""
    check_greatest(most)
    check_state(one, most)
    far = distances(other, most)
    # A way leads from each state to each of as many balls, so what is missing has another count of them.
    if one not in far:
        raise OutOfBounds("the states have unlike counts of bits")
    throws = []
    state = one
    while state != other:
        throw = nearer_throw(state, far, most)
        throws.append(throw)
        state = led_to(state, throw)
    return throws
