import inspect
import itertools
import unittest

from cases import RefusalCase
from samples import lands_apart, not_whole_from
from tossbook.counts import patterns
from tossbook.errors import OutOfBounds
from tossbook.rows import balls_of, clash_of

LENGTHS = range(1, 7)
BALLS = range(7)


def patterns_of_all_rows(length, balls):
    """Each row of throws from nought to the sum of them all looked at, in the order of lists."""
    for row in itertools.product(range(length * balls + 1), repeat=length):
        if sum(row) == length * balls and lands_apart(row):
            yield list(row)


class Patterns(RefusalCase):

    def test_named_ones(self):
        self.assertEqual(patterns(1, 0), [[0]])
        self.assertEqual(patterns(1, 6), [[6]])
        self.assertEqual(patterns(2, 0), [[0, 0]])
        self.assertEqual(patterns(2, 2), [[0, 4], [1, 3], [2, 2], [3, 1], [4, 0]])
        self.assertEqual(patterns(3, 1), [[0, 0, 3], [0, 1, 2], [0, 3, 0], [1, 1, 1], [1, 2, 0], [2, 0, 1], [3, 0, 0]])
        self.assertEqual(patterns(6, 0), [[0] * 6])
        self.assertEqual(patterns(6, 6)[0], [0, 0, 0, 0, 0, 36])
        self.assertEqual(patterns(6, 6)[-1], [36, 0, 0, 0, 0, 0])
        self.assertIn([5, 3, 1], patterns(3, 3))
        self.assertIn([4, 4, 1], patterns(3, 3))
        self.assertNotIn([4, 3, 2], patterns(3, 3))

    def test_against_all_rows(self):
        for length, most in ((1, 6), (2, 6), (3, 6), (4, 2), (5, 1), (6, 0)):
            for balls in range(most + 1):
                self.assertEqual(patterns(length, balls), list(patterns_of_all_rows(length, balls)), (length, balls))

    def test_how_many_there_are(self):
        for length in LENGTHS:
            for balls in BALLS:
                many = (balls + 1) ** length - balls ** length
                self.assertEqual(len(patterns(length, balls)), many, (length, balls))

    def test_in_the_order_of_lists_and_none_twice(self):
        for length in LENGTHS:
            for balls in BALLS:
                answer = patterns(length, balls)
                self.assertIs(type(answer), list)
                for one, other in zip(answer, answer[1:]):
                    self.assertLess(one, other)

    def test_each_is_a_plain_pattern_of_the_length_and_the_balls(self):
        for length in LENGTHS:
            for balls in BALLS:
                for pattern in patterns(length, balls):
                    self.assertIs(type(pattern), list)
                    self.assertEqual(len(pattern), length)
                    self.assertIsNone(clash_of(pattern), pattern)
                    self.assertEqual(balls_of(pattern), balls, pattern)
                    self.assertGreaterEqual(min(pattern), 0, pattern)

    def test_an_answer_that_is_emptied_is_answered_whole_again(self):
        for length, balls in ((1, 0), (3, 1), (6, 0)):
            whole = [list(pattern) for pattern in patterns(length, balls)]
            answer = patterns(length, balls)
            answer[0].clear()
            self.assertEqual(answer[1:], whole[1:])
            answer.clear()
            self.assertEqual(patterns(length, balls), whole)

    def test_lengths_out_of_bounds(self):
        for length in not_whole_from(1, 6):
            for balls in (0, 3, 6, -1, None):
                with self.subTest(length=type(length), balls=balls):
                    self.refused(OutOfBounds, patterns, length, balls)

    def test_balls_out_of_bounds(self):
        for balls in not_whole_from(0, 6):
            for length in (1, 3, 6, 0, None):
                with self.subTest(balls=type(balls), length=length):
                    self.refused(OutOfBounds, patterns, length, balls)


class Interface(unittest.TestCase):

    def test_arguments(self):
        self.assertEqual(list(inspect.signature(patterns).parameters), ["length", "balls"])


if __name__ == "__main__":
    unittest.main()
