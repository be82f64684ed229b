import inspect
import unittest

from cases import PatternCase, RefusalCase, TiesCase
from samples import BOUND, NOT_ROWS, NOT_THROWS, long_patterns, small_patterns, some_patterns, throw_at
from tossbook.errors import NotARow, OtherLength, OutOfBounds
from tossbook.joining import after, back, gaps, lifted, mirrored, rounds, turned
from tossbook.rows import balls_of

NUMBERED = (("turned", turned), ("lifted", lifted), ("gaps", gaps))

# Each call of the module on one pattern, whose answer is to be neither the pattern itself nor kept.
ASKED = (
    ("after", lambda pattern: after(pattern, [0, 0, 0])),
    ("after, second", lambda pattern: after([0, 0, 0], pattern)),
    ("back", back), ("mirrored", mirrored), ("rounds", rounds),
    ("turned", lambda pattern: turned(pattern, 0)),
    ("lifted", lambda pattern: lifted(pattern, 0)),
    ("gaps", lambda pattern: gaps(pattern, 0)),
)


def beats_about(pattern):
    return range(-2 * len(pattern), 2 * len(pattern))


def pairs_of_patterns():
    by_length = {}
    for pattern in small_patterns()[::3] + list(long_patterns()):
        by_length.setdefault(len(pattern), []).append(pattern)
    for alike in by_length.values():
        for one in alike[:40]:
            for other in alike[-40:]:
                yield one, other


class AfterAndBack(PatternCase):

    def test_named_patterns(self):
        self.assertEqual(after([5, 3, 1], [4, 4, 1]), [6, 7, 5])
        self.assertEqual(after([4, 4, 1], [5, 3, 1]), [7, 5, 6])
        self.assertEqual(after([1, -1], [3, 1]), [2, 2])
        self.assertEqual(back([4, 4, 1]), [-1, -4, -4])
        self.assertEqual(back([5, 3, 1]), [-1, -3, -5])
        self.assertEqual(back([4, 2, 3]), [-2, -4, -3])
        self.assertEqual(back([3]), [-3])

    def test_both_throws_together(self):
        for one, other in pairs_of_patterns():
            both = after(one, other)
            self.is_pattern(both, len(one), balls_of(one) + balls_of(other))
            for beat in beats_about(one):
                throw = throw_at(one, beat)
                self.assertEqual(throw_at(both, beat), throw + throw_at(other, beat + throw), (one, other))

    def test_back_and_forth_is_all_noughts(self):
        for pattern in some_patterns():
            self.is_pattern(back(pattern), len(pattern), -balls_of(pattern))
            noughts = [0] * len(pattern)
            self.assertEqual(after(pattern, back(pattern)), noughts, pattern)
            self.assertEqual(after(back(pattern), pattern), noughts, pattern)

    def test_beyond_the_bounds_and_just_at_them(self):
        self.assertEqual(after([BOUND - 1], [1]), [BOUND])
        self.assertEqual(after([-BOUND], [0]), [-BOUND])
        self.assertEqual(after([BOUND], [-BOUND]), [0])
        self.assertEqual(after([1 - BOUND] * 60, [-1] * 60), [-BOUND] * 60)
        self.assertEqual(back([BOUND, -BOUND]), [-BOUND, BOUND])
        self.refused(OutOfBounds, after, [BOUND], [1])
        self.refused(OutOfBounds, after, [-BOUND], [-1])
        self.assertEqual(after([0, 0, BOUND - 1], [2, 0, 1]), [2, 0, BOUND])
        self.refused(OutOfBounds, after, [0, 0, BOUND - 1], [0, 1, 2])
        self.refused(OutOfBounds, after, [0, 0, 1 - BOUND], [0, -2, -4])

    def test_unlike_lengths(self):
        self.refused(OtherLength, after, [3], [3, 3])
        self.refused(OtherLength, after, [3] * 60, [3] * 59)


class Made(PatternCase):

    def test_named_patterns(self):
        self.assertEqual(turned([5, 3, 1], 1), [3, 1, 5])
        self.assertEqual(turned([5, 3, 1], -1), [1, 5, 3])
        self.assertEqual(turned([5, 3, 1], 5), [1, 5, 3])
        self.assertEqual(turned([5, 3, 1], 0), [5, 3, 1])
        self.assertEqual(lifted([5, 3, 1], 2), [7, 5, 3])
        self.assertEqual(lifted([5, 3, 1], -2), [3, 1, -1])
        self.assertEqual(lifted([5, 3, 1], 0), [5, 3, 1])
        self.assertEqual(mirrored([5, 3, 1]), [1, 5, 3])
        self.assertEqual(mirrored([4, 2, 3]), [2, 3, 4])
        self.assertEqual(mirrored([7]), [7])
        self.assertEqual(gaps([4, 2, 3], 5), [1, 2, 3])
        self.assertEqual(gaps([5, 3, 1], 0), [-5, -1, -3])

    def test_turned(self):
        for pattern in some_patterns():
            length = len(pattern)
            for k in (0, 1, -1, length, -length, length + 2, -5 * length - 3, BOUND, -BOUND):
                answer = turned(pattern, k)
                self.is_pattern(answer, length, balls_of(pattern))
                self.assertEqual(answer, [throw_at(pattern, k + beat) for beat in range(length)], (pattern, k))

    def test_lifted(self):
        for pattern in small_patterns() + list(long_patterns()):
            for k in (0, 1, -1, len(pattern) + 1, -70, 5000):
                answer = lifted(pattern, k)
                self.is_pattern(answer, len(pattern), balls_of(pattern) + k)
                self.assertEqual(answer, [throw + k for throw in pattern], (pattern, k))

    def test_mirrored(self):
        for pattern in some_patterns():
            answer = mirrored(pattern)
            self.is_pattern(answer, len(pattern), balls_of(pattern))
            for beat in beats_about(pattern):
                throw = throw_at(pattern, beat)
                self.assertEqual(throw_at(answer, -(beat + throw)), throw, pattern)
            self.assertEqual(mirrored(answer), pattern)

    def test_gaps(self):
        for pattern in small_patterns() + list(long_patterns()):
            for h in (0, 7, -7, len(pattern), 9000):
                answer = gaps(pattern, h)
                self.is_pattern(answer, len(pattern), h - balls_of(pattern))
                for beat in beats_about(pattern):
                    self.assertEqual(throw_at(answer, beat), h - throw_at(pattern, -beat), (pattern, h))
                self.assertEqual(gaps(answer, h), pattern)

    def test_numbers_that_are_none_or_beyond_the_bounds(self):
        for name, call in NUMBERED:
            for number in NOT_THROWS:
                with self.subTest(name, number=type(number)):
                    self.refused(OutOfBounds, call, [5, 3, 1], number)

    def test_numbers_at_the_bounds(self):
        self.assertEqual(turned([5, 3, 1], BOUND), [3, 1, 5])
        self.assertEqual(turned([5, 3, 1], -BOUND), [1, 5, 3])
        self.assertEqual(lifted([0], BOUND), [BOUND])
        self.assertEqual(lifted([0], -BOUND), [-BOUND])
        self.assertEqual(lifted([-BOUND], BOUND), [0])
        self.assertEqual(gaps([BOUND], BOUND), [0])
        self.assertEqual(gaps([0, 0], BOUND), [BOUND, BOUND])
        self.assertEqual(gaps([0, 0], -BOUND), [-BOUND, -BOUND])

    def test_throws_beyond_the_bounds_and_just_at_them(self):
        self.assertEqual(lifted([BOUND - 1], 1), [BOUND])
        self.assertEqual(lifted([1 - BOUND, 3 - BOUND], -1), [-BOUND, 2 - BOUND])
        self.refused(OutOfBounds, lifted, [BOUND], 1)
        self.refused(OutOfBounds, lifted, [0, -BOUND], -1)
        self.refused(OutOfBounds, lifted, [0, 2], BOUND - 1)
        self.refused(OutOfBounds, lifted, [BOUND], BOUND)
        self.assertEqual(gaps([-BOUND], 0), [BOUND])
        self.assertEqual(gaps([BOUND - 1], -1), [-BOUND])
        self.refused(OutOfBounds, gaps, [-BOUND], 1)
        self.refused(OutOfBounds, gaps, [BOUND], -1)
        self.refused(OutOfBounds, gaps, [0, -2], BOUND - 1)
        self.refused(OutOfBounds, gaps, [-BOUND], BOUND)


class Rounds(PatternCase):

    def test_named_patterns(self):
        self.assertEqual(rounds([3]), [([0], 3)])
        self.assertEqual(rounds([-7]), [([0], -7)])
        self.assertEqual(rounds([5, 3, 1]), [([0, 2], 2), ([1], 1)])
        self.assertEqual(rounds([4, 4, 1]), [([0, 1, 2], 3)])
        self.assertEqual(rounds([2, 2, -1, -3]), [([0, 2, 1, 3], 0)])
        self.assertEqual(rounds([0, 3, 6]), [([0], 0), ([1], 1), ([2], 2)])
        self.assertEqual(rounds([-3, 1, -1]), [([0], -1), ([1, 2], 0)])

    def test_a_single_round_of_60_and_as_many_rounds_as_throws(self):
        self.assertEqual(rounds([1] * 60), [(list(range(60)), 1)])
        self.assertEqual(rounds([-1] * 60), [([0] + list(range(59, 0, -1)), -1)])
        self.assertEqual(rounds([120] * 60), [([beat], 2) for beat in range(60)])

    def test_what_the_document_says_of_them(self):
        for pattern in some_patterns():
            answer = rounds(pattern)
            self.assertIs(type(answer), list)
            for pair in answer:
                self.assertIs(type(pair), tuple)
                beats, balls = pair
                self.assertIs(type(beats), list)
                self.assertEqual(beats[0], min(beats))
                self.assertEqual(balls * len(pattern), sum(pattern[beat] for beat in beats))
                for beat, following in zip(beats, beats[1:] + beats[:1]):
                    self.assertEqual((beat + pattern[beat]) % len(pattern), following)
            firsts = [beats[0] for beats, balls in answer]
            self.assertEqual(firsts, sorted(firsts))
            each = [beat for beats, balls in answer for beat in beats]
            self.assertEqual(sorted(each), list(range(len(pattern))))
            self.assertEqual(sum(balls for beats, balls in answer), balls_of(pattern))


class NothingTied(TiesCase):

    def test_neither_to_the_pattern_nor_to_an_answer(self):
        for name, call in ASKED:
            with self.subTest(name):
                self.tied_to_nothing(call, [4, 4, 1])
                self.tied_to_nothing(call, [5, 3, 1])


class WhichComesFirst(RefusalCase):

    def test_no_row_then_no_pattern_ahead_of_a_number(self):
        for name, call in NUMBERED:
            for number in (None, True, BOUND + 1):
                with self.subTest(name, number=number):
                    self.refused(NotARow, call, [2, 1, True], number)
                    self.refused(NotARow, call, None, number)
                    self.clashes((0, 1), call, [2, 1], number)

    def test_no_row_ahead_of_a_clash_in_it(self):
        for name, call in NUMBERED:
            self.refused(NotARow, call, [2, 1, 0, BOUND + 1], 0)
        self.refused(NotARow, rounds, [2, 1] * 31)

    def test_the_first_pattern_whole_ahead_of_the_other(self):
        for handed in NOT_ROWS:
            self.clashes((0, 1), after, [2, 1], handed)
            self.refused(NotARow, after, handed, [2, 1])
        self.clashes((0, 2), after, [-1, 0, 0], [2, 1])
        self.clashes((0, 1), after, [2, 1], [-1, 0, 0])

    def test_the_other_ahead_of_the_lengths(self):
        self.refused(NotARow, after, [3], [])
        self.refused(NotARow, after, [3], [3] * 61)
        self.clashes((0, 1), after, [3], [2, 1])

    def test_the_lengths_ahead_of_the_bounds(self):
        self.refused(OtherLength, after, [BOUND], [BOUND, BOUND])
        self.refused(OtherLength, after, [BOUND, BOUND], [BOUND])


class Interface(unittest.TestCase):

    def test_arguments(self):
        for function, names in ((after, ["one", "other"]), (back, ["pattern"]), (turned, ["pattern", "k"]),
                                (lifted, ["pattern", "k"]), (mirrored, ["pattern"]), (gaps, ["pattern", "h"]),
                                (rounds, ["pattern"])):
            self.assertEqual(list(inspect.signature(function).parameters), names)


if __name__ == "__main__":
    unittest.main()
