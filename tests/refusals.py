"""A test case that asks for a refusal of just one class."""

import unittest

from tossbook.errors import Clash, TossError


class RefusalCase(unittest.TestCase):

    def refused(self, kind, call, *handed):
        with self.assertRaises(TossError) as caught:
            call(*handed)
        self.assertIs(type(caught.exception), kind)
        return caught.exception

    def clashes(self, beats, call, *handed):
        told = self.refused(Clash, call, *handed).beats
        self.assertEqual(told, beats)
        self.assertIs(type(told), tuple)
