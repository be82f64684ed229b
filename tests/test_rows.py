import inspect
import unittest

from cases import RefusalCase
from samples import (BOUND, CLASHING, NOT_ROWS, NOT_THROWS, TAKE_A_PATTERN, TAKE_A_ROW, bound_patterns, lands_apart,
                     long_patterns, small_rows, some_patterns)
from tossbook.errors import NotARow, OutOfBounds
from tossbook.rows import balls_of, clash_of, even


def clash_by_pairs(row):
    for j in range(len(row)):
        for i in range(j):
            if (i + row[i]) % len(row) == (j + row[j]) % len(row):
                return (i, j)
    return None


class Rows(RefusalCase):

    def test_what_is_no_row_is_refused_everywhere(self):
        for name, call in TAKE_A_ROW + TAKE_A_PATTERN:
            for case, handed in enumerate(NOT_ROWS):
                with self.subTest(name, case=case):
                    self.refused(NotARow, call, handed)

    def test_rows_of_1_and_of_60_throws_and_throws_at_the_bounds_are_rows(self):
        for row in bound_patterns():
            with self.subTest(row=row):
                self.assertIsNone(clash_of(row))

    def test_the_row_handed_in_is_as_before(self):
        for name, call in TAKE_A_ROW + TAKE_A_PATTERN:
            with self.subTest(name):
                row = [4, 4, 1]
                call(row)
                self.assertEqual(row, [4, 4, 1])

    def test_a_row_that_the_asker_changes_is_looked_at_anew(self):
        row = [4, 4, 1]
        self.assertEqual(balls_of(row), 3)
        row.clear()
        self.refused(NotARow, balls_of, row)
        row.extend([2, 1])
        self.assertEqual(clash_of(row), (0, 1))


class Clashes(RefusalCase):

    def test_named_rows(self):
        for row, pair in CLASHING:
            with self.subTest(row=row):
                self.assertEqual(clash_of(row), pair)
        for row in ([3], [5, 3, 1], [4, 4, 1], [-1, 1], [-1, -3, 1], [30, 0, -30], [1001, -1]):
            with self.subTest(row=row):
                self.assertIsNone(clash_of(row))

    def test_of_several_clashes_the_least_second_beat(self):
        self.assertEqual(clash_of([0, 1, 0, 1]), (1, 2))
        self.assertEqual(clash_of([2, 2, 0, 0]), (0, 2))
        self.assertEqual(clash_of([59 - beat for beat in range(60)]), (0, 1))
        self.assertEqual(clash_of([0] * 58 + [1, 0]), (58, 59))
        self.assertEqual(clash_of([0] * 59 + [1 - 60]), (0, 59))

    def test_short_rows_against_every_pair(self):
        for row in small_rows():
            self.assertEqual(clash_of(row), clash_by_pairs(row), row)

    def test_none_just_where_all_land_apart(self):
        for row in small_rows():
            self.assertEqual(clash_of(row) is None, lands_apart(row), row)

    def test_long_rows(self):
        for pattern in long_patterns():
            self.assertIsNone(clash_of(pattern), pattern)
            for beat in range(1, len(pattern), 7):
                row = list(pattern)
                row[beat] += 1
                self.assertEqual(clash_of(row), clash_by_pairs(row), row)

    def test_the_pair_is_a_tuple_of_whole_numbers(self):
        pair = clash_of([2, 1])
        self.assertIs(type(pair), tuple)
        self.assertEqual([type(beat) for beat in pair], [int, int])

    def test_a_clash_is_refused_where_a_pattern_is_due(self):
        for name, call in TAKE_A_PATTERN:
            for row, pair in CLASHING:
                with self.subTest(name, row=row):
                    self.clashes(pair, call, row)


class Balls(RefusalCase):

    def test_named_patterns(self):
        for pattern, balls in (([3], 3), ([5, 3, 1], 3), ([4, 4, 1], 3), ([-1, 1], 0), ([-1, -3, -2], -2),
                               ([-4, -1, -1], -2), ([0] * 60, 0), ([BOUND] * 60, BOUND), ([-BOUND], -BOUND)):
            with self.subTest(pattern=pattern):
                self.assertEqual(balls_of(pattern), balls)
                self.assertIs(type(balls_of(pattern)), int)

    def test_balls_times_length_is_the_sum(self):
        for pattern in some_patterns():
            self.assertEqual(balls_of(pattern) * len(pattern), sum(pattern), pattern)


class Even(RefusalCase):

    def test_all_throws_alike(self):
        for length in (1, 2, 59, 60):
            for balls in (-BOUND, -1, 0, 3, BOUND):
                with self.subTest(length=length, balls=balls):
                    pattern = even(length, balls)
                    self.assertEqual(pattern, [balls for beat in range(length)])
                    self.assertIs(type(pattern), list)
                    self.assertEqual(balls_of(pattern), balls)

    def test_lengths_out_of_bounds(self):
        for length in (0, 61, -1, 100) + tuple(NOT_THROWS):
            with self.subTest(length=type(length)):
                self.refused(OutOfBounds, even, length, 3)

    def test_balls_out_of_bounds(self):
        for balls in NOT_THROWS:
            with self.subTest(balls=type(balls)):
                self.refused(OutOfBounds, even, 3, balls)

    def test_an_answer_that_is_emptied_is_answered_whole_again(self):
        even(3, 5).clear()
        self.assertEqual(even(3, 5), [5, 5, 5])


class Interface(unittest.TestCase):

    def test_arguments(self):
        for function, names in ((clash_of, ["row"]), (balls_of, ["pattern"]), (even, ["length", "balls"])):
            self.assertEqual(list(inspect.signature(function).parameters), names)


if __name__ == "__main__":
    unittest.main()
