"""Rows and patterns to test with, and what the document says of them, reckoned beat by beat."""

import itertools
import random

from tossbook import joining, rows

BOUND = 1000000

NOT_ROWS = [
    (1, 2, 3), (), "531", "", None, {}, {0: 1}, {3}, 3, True, 1.0, b"3", range(3), object(), list,
    [], [1] * 61, [0] * 1000,
    [True], [False], [1, True], [False, 0], ["1"], [3, "a"], [None], [3, None, 3], [1.0], [3, 3.0], [[3]], [(3,)],
    [BOUND + 1], [-BOUND - 1], [0, BOUND + 1], [0, 0, -BOUND - 1], [10 ** 5000], [-10 ** 5000],
]

NOT_THROWS = [True, False, None, "", "1", 1.0, 0.5, [], [1], (1,), {}, b"1", object(), int,
              BOUND + 1, -BOUND - 1, 10 ** 5000, -10 ** 5000]

CLASHING = [([2, 1], (0, 1)), ([0, 1, 0], (1, 2)), ([1, 0, 1], (0, 1)), ([3, 2, 1], (0, 1)),
            ([BOUND, BOUND - 1], (0, 1)), ([-1, 0, 0], (0, 2))]

# Each function that takes a row or a pattern, in each place where it takes one.
TAKE_A_ROW = [("clash_of", rows.clash_of)]
TAKE_A_PATTERN = [
    ("balls_of", rows.balls_of),
    ("after, first", lambda one: joining.after(one, [1])),
    ("after, second", lambda other: joining.after([1], other)),
    ("back", joining.back),
    ("turned", lambda pattern: joining.turned(pattern, 1)),
    ("lifted", lambda pattern: joining.lifted(pattern, 1)),
    ("mirrored", joining.mirrored),
    ("gaps", lambda pattern: joining.gaps(pattern, 1)),
    ("rounds", joining.rounds),
]


def throw_at(row, beat):
    return row[beat % len(row)]


def lands_apart(row):
    """Whether no two throws land at one beat, seen over more beats than the throws reach."""
    reach = max(abs(throw) for throw in row) + 2 * len(row)
    landed = [beat + throw_at(row, beat) for beat in range(-reach, reach)]
    return len(set(landed)) == len(landed)


def small_rows():
    for length, least, most in ((1, -4, 4), (2, -5, 5), (3, -4, 5), (4, -2, 4)):
        for row in itertools.product(range(least, most + 1), repeat=length):
            yield list(row)


def long_patterns():
    chance = random.Random(531)
    for length in list(range(1, 61)) * 2:
        places = list(range(length))
        chance.shuffle(places)
        yield [place - beat + length * chance.randint(-9, 9) for beat, place in enumerate(places)]


def bound_patterns():
    return [[BOUND], [-BOUND], [BOUND] * 60, [-BOUND] * 60, [BOUND, -BOUND], [0], [0] * 60]


def small_patterns():
    return [row for row in small_rows() if lands_apart(row)]


def some_patterns():
    return small_patterns() + list(long_patterns()) + bound_patterns()
