import unittest

from tossbook import errors

REFUSALS = ("NotARow", "Clash", "OtherLength", "OutOfBounds", "NotPlain", "NoThrow", "NotWritten")


class Errors(unittest.TestCase):

    def test_any_refusal_is_a_value_error(self):
        self.assertEqual(errors.TossError.__bases__, (ValueError,))

    def test_each_refusal_stands_straight_under_it(self):
        for name in REFUSALS:
            with self.subTest(name):
                self.assertEqual(getattr(errors, name).__bases__, (errors.TossError,))

    def test_a_clash_has_its_beats(self):
        self.assertEqual(errors.Clash((0, 2)).beats, (0, 2))
        self.assertEqual(errors.Clash(beats=(3, 4)).beats, (3, 4))


if __name__ == "__main__":
    unittest.main()
