import inspect
import time
import unittest

from cases import PatternCase, RefusalCase, TiesCase
from samples import BOUND, bound_patterns, long_patterns, not_whole_from, small_patterns, some_patterns, throw_at
from tossbook.errors import NotARow, OutOfBounds
from tossbook.rows import balls_of, even
from tossbook.swaps import crossings, from_even, neighbours, swapped

# Whatever is asked of one pattern is to be answered within this many seconds.
GOOD_TIME = 5


def landing(pattern, beat):
    return beat + throw_at(pattern, beat)


def crossings_by_pairs(pattern):
    """Each pair of beats looked at, as far on as a throw can still land behind another."""
    spread = max(pattern) - min(pattern)
    many = 0
    for first in range(len(pattern)):
        for second in range(first + 1, first + spread + 1):
            many += landing(pattern, first) > landing(pattern, second)
    return many


def backwards(length):
    """A pattern of nought balls whose throws land in the order opposite to theirs."""
    return [length - 1 - 2 * beat for beat in range(length)]


class SwapsCase(PatternCase):

    def landings_changed(self, pattern, answer, one, other):
        """Over three times round: the two beats' landings changed places, all others are as they were."""
        length = len(pattern)
        for beat in range(-length, 2 * length):
            if (beat - one) % length == 0:
                self.assertEqual(landing(answer, beat), landing(pattern, beat + other - one), (pattern, one, other))
            elif (beat - other) % length == 0:
                self.assertEqual(landing(answer, beat), landing(pattern, beat + one - other), (pattern, one, other))
            else:
                self.assertEqual(landing(answer, beat), landing(pattern, beat), (pattern, one, other))


class Swapped(SwapsCase):

    def test_named_patterns(self):
        self.assertEqual(swapped([5, 3, 1], 0, 1), [4, 4, 1])
        self.assertEqual(swapped([5, 3, 1], 1, 2), [5, 2, 2])
        self.assertEqual(swapped([5, 3, 1], 0, 2), [3, 3, 3])
        self.assertEqual(swapped([3, 3], 0, 1), [4, 2])
        self.assertEqual(swapped([0] * 60, 0, 59), [59] + [0] * 58 + [-59])
        self.assertEqual(swapped([0] * 60, 58, 59), [0] * 58 + [1, -1])

    def test_each_of_two_beats_lands_where_the_other_did(self):
        for pattern in small_patterns() + list(long_patterns())[::3]:
            length = len(pattern)
            for i in range(0, length, 1 + length // 7):
                for j in range(length - 1, i, -1 - length // 9):
                    answer = swapped(pattern, i, j)
                    self.is_pattern(answer, length, balls_of(pattern))
                    self.landings_changed(pattern, answer, i, j)
                    self.assertEqual(swapped(answer, i, j), pattern)

    def test_no_beat_of_the_pattern(self):
        for pattern in ([5, 3, 1], [3, 3], [0] * 60):
            last = len(pattern) - 1
            for beat in not_whole_from(0, last):
                with self.subTest(length=len(pattern), beat=type(beat)):
                    self.refused(OutOfBounds, swapped, pattern, 0, beat)
                    self.refused(OutOfBounds, swapped, pattern, beat, last)

    def test_the_first_one_is_not_ahead(self):
        for pattern in ([5, 3, 1], [3, 3], [0] * 60):
            for i in range(len(pattern)):
                for j in range(i + 1):
                    self.refused(OutOfBounds, swapped, pattern, i, j)

    def test_a_single_throw_has_no_swap(self):
        for i in (0, 1, -1):
            for j in (0, 1, -1):
                self.refused(OutOfBounds, swapped, [3], i, j)

    def test_throws_beyond_the_bounds_and_just_at_them(self):
        self.assertEqual(swapped([BOUND - 1] * 2, 0, 1), [BOUND, BOUND - 2])
        self.assertEqual(swapped([1 - BOUND] * 2, 0, 1), [2 - BOUND, -BOUND])
        self.refused(OutOfBounds, swapped, [BOUND] * 2, 0, 1)
        self.refused(OutOfBounds, swapped, [-BOUND] * 2, 0, 1)
        self.assertEqual(swapped([BOUND - 59] * 60, 0, 59)[0], BOUND)
        self.assertEqual(swapped([59 - BOUND] * 60, 0, 59)[59], -BOUND)
        self.refused(OutOfBounds, swapped, [BOUND - 58] * 60, 0, 59)
        self.refused(OutOfBounds, swapped, [58 - BOUND] * 60, 0, 59)
        self.assertEqual(swapped([BOUND, -BOUND], 0, 1), [1 - BOUND, BOUND - 1])
        self.refused(OutOfBounds, swapped, [-BOUND, BOUND], 0, 1)


class Neighbours(SwapsCase):

    def test_named_patterns(self):
        self.assertEqual(neighbours([5, 3, 1], 0), [4, 4, 1])
        self.assertEqual(neighbours([5, 3, 1], 1), [5, 2, 2])
        self.assertEqual(neighbours([5, 3, 1], 2), [0, 3, 6])
        self.assertEqual(neighbours([3, 3], 0), [4, 2])
        self.assertEqual(neighbours([3, 3], 1), [2, 4])
        self.assertEqual(neighbours([0] * 60, 59), [-1] + [0] * 58 + [1])

    def test_each_place(self):
        for pattern in small_patterns() + list(long_patterns()):
            length = len(pattern)
            for k in range(length if length > 1 else 0):
                answer = neighbours(pattern, k)
                self.is_pattern(answer, length, balls_of(pattern))
                self.landings_changed(pattern, answer, k, k + 1)
                self.assertEqual(neighbours(answer, k), pattern)
                if k + 1 < length:
                    self.assertEqual(answer, swapped(pattern, k, k + 1))

    def test_no_place_of_the_pattern(self):
        for pattern in ([5, 3, 1], [3, 3], [0] * 60):
            for place in not_whole_from(0, len(pattern) - 1):
                with self.subTest(length=len(pattern), place=type(place)):
                    self.refused(OutOfBounds, neighbours, pattern, place)

    def test_a_single_throw_has_no_neighbours(self):
        for place in not_whole_from(0, 0) + [0]:
            self.refused(OutOfBounds, neighbours, [3], place)

    def test_throws_beyond_the_bounds_and_just_at_them(self):
        for length in (2, 3, 60):
            for k in range(length):
                self.assertEqual(neighbours([BOUND - 1] * length, k)[k], BOUND)
                self.assertEqual(neighbours([1 - BOUND] * length, k)[(k + 1) % length], -BOUND)
                self.refused(OutOfBounds, neighbours, [BOUND] * length, k)
                self.refused(OutOfBounds, neighbours, [-BOUND] * length, k)


class Crossings(SwapsCase):

    def test_named_patterns(self):
        self.assertEqual(crossings([3]), 0)
        self.assertEqual(crossings([4, 2]), 1)
        self.assertEqual(crossings([2, 4]), 1)
        self.assertEqual(crossings([5, 1]), 2)
        self.assertEqual(crossings([5, 3, 1]), 3)
        self.assertEqual(crossings([4, 4, 1]), 2)
        self.assertEqual(crossings([1000, -1000]), 1000)
        self.assertEqual(crossings(backwards(60)), 60 * 59 // 2)
        self.assertIs(type(crossings([5, 3, 1])), int)

    def test_pair_by_pair(self):
        for pattern in small_patterns() + list(long_patterns()):
            self.assertEqual(crossings(pattern), crossings_by_pairs(pattern), pattern)

    def test_the_even_ones_alone_have_none(self):
        for pattern in some_patterns():
            self.assertEqual(crossings(pattern) == 0, len(set(pattern)) == 1, pattern)
        for length in (1, 2, 59, 60):
            for balls in (-BOUND, -7, 0, 1, BOUND):
                self.assertEqual(crossings(even(length, balls)), 0)

    def test_a_neighbours_swap_makes_one_more_or_one_less(self):
        for pattern in small_patterns() + list(long_patterns())[::3]:
            many = crossings(pattern)
            for k in range(len(pattern) if len(pattern) > 1 else 0):
                more = landing(pattern, k) < landing(pattern, k + 1)
                self.assertEqual(crossings(neighbours(pattern, k)), many + (1 if more else -1), (pattern, k))

    def test_both_bounds_and_rows_of_60_in_good_time(self):
        began = time.perf_counter()
        self.assertEqual(crossings([BOUND, -BOUND]), BOUND)
        self.assertEqual(crossings([-BOUND, BOUND]), BOUND)
        self.assertEqual(crossings([BOUND, -BOUND] * 30), 30 * BOUND)
        self.assertEqual(crossings([-BOUND, BOUND] * 30), 30 * BOUND)
        for pattern in bound_patterns():
            self.assertIs(type(crossings(pattern)), int)
        self.assertLess(time.perf_counter() - began, GOOD_TIME)


class FromEven(SwapsCase):

    def comes_of_the_even_one(self, pattern):
        places = from_even(pattern)
        self.assertIs(type(places), list)
        self.assertEqual(len(places), crossings(pattern), pattern)
        made = even(len(pattern), balls_of(pattern))
        for place in places:
            made = neighbours(made, place)
        self.assertEqual(made, pattern)

    def test_named_patterns(self):
        self.assertEqual(from_even([4, 2]), [0])
        self.assertEqual(from_even([2, 4]), [1])
        self.assertEqual(from_even([5, 1]), [1, 0])
        self.assertEqual(from_even([4, 4, 1]), [0, 1])
        self.assertIn(from_even([5, 3, 1]), ([0, 1, 0], [1, 0, 1]))

    def test_an_empty_list_for_the_even_ones(self):
        for length in (1, 2, 3, 60):
            for balls in (-BOUND, -1, 0, 3, BOUND):
                self.assertEqual(from_even(even(length, balls)), [])

    def test_the_swaps_one_by_one_give_the_pattern(self):
        for pattern in small_patterns() + list(long_patterns()):
            if crossings(pattern) <= 1000:
                self.comes_of_the_even_one(pattern)
            else:
                self.refused(OutOfBounds, from_even, pattern)

    def test_never_by_fewer(self):
        """A search by ever more swaps from the even pattern on."""
        for length, most in ((2, 12), (3, 7), (4, 5)):
            fewest = {tuple(even(length, 2)): 0}
            for swaps in range(1, most + 1):
                for pattern in [made for made in fewest if fewest[made] == swaps - 1]:
                    for k in range(length):
                        fewest.setdefault(tuple(neighbours(list(pattern), k)), swaps)
            for pattern, swaps in fewest.items():
                self.assertEqual(len(from_even(list(pattern))), swaps, pattern)

    def test_just_1000_crossings_and_one_more(self):
        self.comes_of_the_even_one([1000, -1000])
        self.comes_of_the_even_one([-1000, 1000])
        self.refused(OutOfBounds, from_even, [1001, -1001])
        self.refused(OutOfBounds, from_even, [-1001, 1001])
        self.comes_of_the_even_one(backwards(45))
        self.refused(OutOfBounds, from_even, backwards(46))
        self.refused(OutOfBounds, from_even, backwards(60))
        long_one = [0] * 60
        for swap in range(1000):
            long_one = neighbours(long_one, swap % 60)
        self.assertEqual(crossings(long_one), 1000)
        self.comes_of_the_even_one(long_one)
        self.refused(OutOfBounds, from_even, neighbours(long_one, 1000 % 60))

    def test_throws_near_the_bounds(self):
        for pattern in ([BOUND, BOUND - 2], [BOUND - 2, BOUND], [-BOUND, 2 - BOUND], [2 - BOUND, -BOUND],
                        [BOUND, BOUND - 2000], [2000 - BOUND, -BOUND], [BOUND - 2000, BOUND], [-BOUND, 2000 - BOUND],
                        [BOUND, BOUND - 2, BOUND - 4], [BOUND, BOUND, BOUND - 3], [-BOUND, 3 - BOUND, -BOUND]):
            with self.subTest(pattern=pattern):
                self.comes_of_the_even_one(pattern)
        for pattern in (backwards(40), backwards(45)):
            self.comes_of_the_even_one([throw + BOUND - max(pattern) for throw in pattern])
            self.comes_of_the_even_one([throw - BOUND - min(pattern) for throw in pattern])

    def test_very_many_crossings_are_refused_in_good_time(self):
        began = time.perf_counter()
        for pattern in ([BOUND, -BOUND], [-BOUND, BOUND], [BOUND, -BOUND] * 30):
            self.refused(OutOfBounds, from_even, pattern)
        self.assertLess(time.perf_counter() - began, GOOD_TIME)


class NothingTied(TiesCase):

    def test_neither_to_the_pattern_nor_to_an_answer(self):
        for pattern in ([4, 4, 1], [3, 3, 3]):
            self.tied_to_nothing(lambda handed: swapped(handed, 0, 2), pattern)
            self.tied_to_nothing(lambda handed: neighbours(handed, 2), pattern)
            self.tied_to_nothing(from_even, pattern)


class WhichComesFirst(RefusalCase):

    def test_no_row_then_no_pattern_ahead_of_a_beat(self):
        for beat in (None, True, "0", -1, 2, 60):
            with self.subTest(beat=beat):
                for row in (None, [2, 1, True], [2, 1] * 31):
                    self.refused(NotARow, swapped, row, 0, beat)
                    self.refused(NotARow, swapped, row, beat, 0)
                    self.refused(NotARow, neighbours, row, beat)
                self.clashes((0, 1), swapped, [2, 1], 0, beat)
                self.clashes((0, 1), swapped, [2, 1], beat, 0)
                self.clashes((0, 1), neighbours, [2, 1], beat)

    def test_ahead_of_too_many_crossings(self):
        self.refused(NotARow, from_even, [BOUND + 1, -BOUND])
        self.clashes((0, 1), from_even, [BOUND, 1 - BOUND])
        self.clashes((0, 1), crossings, [BOUND, 1 - BOUND])


class Interface(unittest.TestCase):

    def test_arguments(self):
        for function, names in ((swapped, ["pattern", "i", "j"]), (neighbours, ["pattern", "k"]),
                                (crossings, ["pattern"]), (from_even, ["pattern"])):
            self.assertEqual(list(inspect.signature(function).parameters), names)


if __name__ == "__main__":
    unittest.main()
