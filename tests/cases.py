"""Test cases with what many tests ask: a refusal of just one class, a pattern, an answer that hangs on nothing."""

import unittest

from tossbook.errors import Clash, TossError
from tossbook.rows import balls_of, clash_of


class RefusalCase(unittest.TestCase):

    def refused(self, kind, call, *handed):
        with self.assertRaises(TossError) as caught:
            call(*handed)
        self.assertIs(type(caught.exception), kind)
        return caught.exception

    def clashes(self, beats, call, *handed):
        told = self.refused(Clash, call, *handed).beats
        self.assertEqual(told, beats)
        self.assertIs(type(told), tuple)


class PatternCase(RefusalCase):

    def is_pattern(self, answer, length, balls):
        self.assertIs(type(answer), list)
        self.assertEqual(len(answer), length)
        self.assertIsNone(clash_of(answer))
        self.assertEqual(balls_of(answer), balls)


def emptied(answer):
    """Empty a list or a dict, and each list within it."""
    for part in answer:
        for piece in part if isinstance(part, tuple) else [part]:
            if isinstance(piece, list):
                emptied(piece)
    answer.clear()


class TiesCase(unittest.TestCase):

    def tied_to_nothing(self, call, pattern):
        """Neither the pattern nor an answer changes with the other one, nor what is answered later."""
        handed = list(pattern)
        answer = call(handed)
        whole = repr(answer)
        self.assertEqual(handed, pattern)
        emptied(answer)
        self.assertEqual(handed, pattern)
        answer = call(handed)
        self.assertEqual(repr(answer), whole)
        handed.clear()
        self.assertEqual(repr(answer), whole)
