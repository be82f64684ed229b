"""Rows and patterns to test with, and what the document says of them, reckoned beat by beat."""

import itertools
import random

from tossbook import changes, joining, notes, rows, states, swaps

BOUND = 1000000

NOT_ROWS = [
    (1, 2, 3), (), "531", "", None, {}, {0: 1}, {3}, 3, True, 1.0, b"3", range(3), object(), list,
    [], [1] * 61, [0] * 1000,
    [True], [False], [1, True], [False, 0], ["1"], [3, "a"], [None], [3, None, 3], [1.0], [3, 3.0], [[3]], [(3,)],
    [BOUND + 1], [-BOUND - 1], [0, BOUND + 1], [0, 0, -BOUND - 1], [10 ** 5000], [-10 ** 5000],
]

NOT_WHOLE = [True, False, None, "", "1", 1.0, 0.5, [], [1], (1,), {}, b"1", object(), int]
NOT_THROWS = NOT_WHOLE + [BOUND + 1, -BOUND - 1, 10 ** 5000, -10 ** 5000]

CLASHING = [([2, 1], (0, 1)), ([0, 1, 0], (1, 2)), ([1, 0, 1], (0, 1)), ([3, 2, 1], (0, 1)),
            ([BOUND, BOUND - 1], (0, 1)), ([-1, 0, 0], (0, 2))]

# Each function that takes a row or a pattern, in each place where it takes one; each takes the pattern 441.
TAKE_A_ROW = [("clash_of", rows.clash_of), ("written", notes.written)]
TAKE_A_PATTERN = [
    ("balls_of", rows.balls_of),
    ("after, first", lambda one: joining.after(one, [0, 0, 0])),
    ("after, second", lambda other: joining.after([0, 0, 0], other)),
    ("back", joining.back),
    ("turned", lambda pattern: joining.turned(pattern, 1)),
    ("lifted", lambda pattern: joining.lifted(pattern, 1)),
    ("mirrored", joining.mirrored),
    ("gaps", lambda pattern: joining.gaps(pattern, 1)),
    ("rounds", joining.rounds),
    ("swapped", lambda pattern: swaps.swapped(pattern, 0, 2)),
    ("neighbours", lambda pattern: swaps.neighbours(pattern, 2)),
    ("crossings", swaps.crossings),
    ("from_even", swaps.from_even),
    ("states_of", states.states_of),
    ("parted", states.parted),
    ("Change", changes.Change().done),
    ("Turn", changes.Turn(1).done),
    ("Lift", changes.Lift(1).done),
    ("Swap", changes.Swap(0, 2).done),
    ("Neighbours", changes.Neighbours(2).done),
    ("Mirror", changes.Mirror().done),
    ("Gaps", changes.Gaps(1).done),
    ("Changes, none", changes.Changes([]).done),
    ("Changes", changes.Changes([changes.Turn(1), changes.Mirror()]).done),
]


def not_whole_from(least, most):
    """What is no whole number from least to most."""
    return NOT_WHOLE + [least - 1, most + 1, least - 100, most + 100, -10 ** 5000, 10 ** 5000]


def next_landings(landings, throw):
    """From how many beats on balls land, behind a throw; or None where it is not let."""
    if throw == 0 and 0 in landings or throw != 0 and (0 not in landings or throw in landings):
        return None
    left = set(landings) - {0} | ({throw} if throw else set())
    return frozenset(beat - 1 for beat in left)


def landings_in(state):
    return frozenset(beat for beat in range(state.bit_length()) if state & 2 ** beat)


def state_with(landings):
    return sum(2 ** beat for beat in landings)


def throw_at(row, beat):
    return row[beat % len(row)]


def lands_apart(row):
    """Whether no two throws land at one beat, seen over more beats than the throws reach."""
    reach = max(abs(throw) for throw in row) + 2 * len(row)
    landed = [beat + throw_at(row, beat) for beat in range(-reach, reach)]
    return len(set(landed)) == len(landed)


def small_rows():
    for length, least, most in ((1, -4, 4), (2, -5, 5), (3, -4, 5), (4, -2, 4)):
        for row in itertools.product(range(least, most + 1), repeat=length):
            yield list(row)


def long_patterns():
    chance = random.Random(531)
    for length in list(range(1, 61)) * 2:
        places = list(range(length))
        chance.shuffle(places)
        yield [place - beat + length * chance.randint(-9, 9) for beat, place in enumerate(places)]


def plain_patterns():
    """Patterns that have states: no throw below nought, none above 60."""
    chance = random.Random(60)
    for pattern in small_patterns():
        if min(pattern) >= 0:
            yield pattern
    for length in list(range(1, 61)) * 2:
        places = list(range(length))
        chance.shuffle(places)
        throws = [(place - beat) % length for beat, place in enumerate(places)]
        yield [throw + length * chance.randint(0, (60 - throw) // length) for throw in throws]
    yield from ([0], [60], [1] * 60, [60] * 60, [60, 0] * 30, [0, 60, 30], [59, 1] * 30, [60] + [0] * 59)


def bound_patterns():
    return [[BOUND], [-BOUND], [BOUND] * 60, [-BOUND] * 60, [BOUND, -BOUND], [0], [0] * 60]


def small_patterns():
    return [row for row in small_rows() if lands_apart(row)]


def some_patterns():
    return small_patterns() + list(long_patterns()) + bound_patterns()
