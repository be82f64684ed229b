import inspect
import time
import unittest

from cases import RefusalCase
from samples import BOUND, CLASHING, NOT_ROWS, NOT_WHOLE, some_patterns
from tossbook.errors import NotARow, NotWritten
from tossbook.notes import read, written

FIGURES = "0123456789"
LETTERS = "abcdefghijklmnopqrstuvwxyz"

NAMED = (
    ([5, 3, 36, -2], "53(36)(-2)"),
    ([5, 3, 1], "531"), ([0], "0"), ([9], "9"), ([10], "a"), ([35], "z"), ([36], "(36)"), ([-1], "(-1)"),
    ([9, 10, 35, 36], "9az(36)"), ([100, 99, -36, -35, -10, -9], "(100)(99)(-36)(-35)(-10)(-9)"),
    ([BOUND], "(1000000)"), ([-BOUND], "(-1000000)"), ([1, 2, 12], "12c"), ([1, 12, 2], "1c2"), ([37, 36], "(37)(36)"),
    ([0] * 60, "0" * 60), ([-BOUND] * 60, "(-1000000)" * 60), ([BOUND] * 60, "(1000000)" * 60),
    (list(range(36)), FIGURES + LETTERS),
)

NOT_WRITTEN = (
    "", " ", "\n", " 531", "531 ", "5 3 1", "53\n1", "531\n", "\t531", "5,3,1", "5.3", "[5, 3, 1]", "5_3", "'531'",
    "A", "Z", "53A", "5a3B", "(A)", "(a)", "(z)",
    "(0)", "(5)", "(9)", "(10)", "(35)", "53(1)", "(36)(35)",
    "(00)", "(036)", "(0036)", "(-02)", "(-036)", "(01000000)", "(05)",
    "(-0)", "(-00)", "-0", "-1", "5-3", "(--2)", "(2-)", "(36-)", "(- 2)", "(-)", "-(36)", "(-(2))",
    "+", "+5", "5+3", "(+36)", "(+5)", "(-+2)", "(+)",
    "(", ")", "()", "(36", "36)", "53(36", "53(36)(", "53(36))", "((36))", "((36)", ")36(", "( )", "(())", "(-2",
    "(36)(-2",
    "( 36)", "(36 )", "(3 6)", "(36\n)", "(\t36)", "(3_6)", "(1_000)", "(1e3)", "(0x40)", "(36.0)", "(37,)", "(3(36)6)",
    "[36]", "{36}", "<36>", "(36]", "_", "*", "#", "%", "\x00", "\x005", "5\x00",
    "(1000001)", "(-1000001)", "(9999999)", "(10000000)", "0(1000001)0", "(" + "9" * 100 + ")", "(-" + "9" * 100 + ")",
    "(" + "9" * 590 + ")", "(" + "9" * 5000 + ")", "(-" + "1" * 5000 + ")", "(" + "0" * 5000 + "36)",
    "0" * 61, "z" * 61, "(36)" * 61, "(-1000000)" * 61, "0" * 600, "0" * 601, "0" * 60 + "(", "0" * 60 + " ",
    # Figures and letters of other alphabets, and signs that look like those here.
    "\u0663", "(\u0663\u0666)", "\uff15", "(\uff13\uff16)", "\u00b2", "(\u00b2)", "5\u00b2", "\uff41", "\u00e4",
    "\u0430", "\u00df", "\uff08" + "36" + "\uff09", "(\u22122)", "(\uff0d2)", "\U0001d7d3", "(\U0001d7d1\U0001d7d4)",
    "\u00bd", "\u2167", "5\u0301", "\ufeff531", "531\u200b", "\u00a0", "\ud800", "(3\u0666)",
)


class Written(RefusalCase):

    def test_named_rows(self):
        for row, text in NAMED:
            with self.subTest(text=text):
                self.assertEqual(written(row), text)

    def test_throw_by_throw(self):
        for throw in list(range(-120, 1200)) + [BOUND - 1, BOUND, 1 - BOUND, -BOUND]:
            if 0 <= throw < 10:
                text = FIGURES[throw]
            elif 10 <= throw < 36:
                text = LETTERS[throw - 10]
            else:
                text = "(" + str(throw) + ")"
            self.assertEqual(written([throw]), text)
            self.assertEqual(written([3, throw, 3]), "3" + text + "3")
            self.assertEqual(written([throw] * 60), text * 60)

    def test_a_row_with_a_clash_is_written_too(self):
        for row, pair in CLASHING:
            self.assertEqual(read(written(row)), row)
        self.assertEqual(written([2, 1]), "21")

    def test_what_is_no_row(self):
        for case, handed in enumerate(NOT_ROWS):
            with self.subTest(case=case):
                self.refused(NotARow, written, handed)

    def test_a_text(self):
        self.assertIs(type(written([5, 3, 1])), str)

    def test_the_row_is_as_before(self):
        row = [5, 36, -2]
        written(row)
        self.assertEqual(row, [5, 36, -2])


class Read(RefusalCase):

    def test_named_rows(self):
        for row, text in NAMED:
            with self.subTest(text=text):
                answer = read(text)
                self.assertEqual(answer, row)
                self.assertIs(type(answer), list)
                self.assertEqual({type(throw) for throw in answer}, {int})

    def test_what_is_written_is_read_back(self):
        for row in some_patterns():
            self.assertEqual(read(written(row)), row)
        for throw in range(-1200, 1200):
            for row in ([throw], [throw] * 60, [throw, 1 - throw, 36]):
                self.assertEqual(read(written(row)), row)

    def test_what_is_not_written_so(self):
        for text in NOT_WRITTEN:
            with self.subTest(text=text[:20].encode("unicode_escape")):
                self.refused(NotWritten, read, text)

    def test_whatever_is_read_is_written_just_so(self):
        """All texts of five of the signs that matter."""
        signs = "013z(-)+ "
        for number in range(len(signs) ** 5):
            text = "".join(signs[number // len(signs) ** place % len(signs)] for place in range(5))
            try:
                row = read(text)
            except NotWritten:
                continue
            self.assertEqual(written(row), text)

    def test_each_single_sign(self):
        for code in list(range(0x3000)) + list(range(0xff00, 0xfff0)) + list(range(0x1d7c0, 0x1d800)):
            sign = chr(code)
            if sign in FIGURES + LETTERS:
                self.assertEqual(read(sign), [(FIGURES + LETTERS).index(sign)])
            else:
                self.refused(NotWritten, read, sign)
            if sign not in FIGURES + "-":
                self.refused(NotWritten, read, "(" + sign + "6)")
            if sign not in FIGURES:
                self.refused(NotWritten, read, "(3" + sign + ")")

    def test_what_is_no_text(self):
        for handed in NOT_WHOLE + [5, 531, 0, b"531", bytearray(b"531"), ["5", "3"], [5, 3, 1], ("531",), {"5"}]:
            if not isinstance(handed, str):
                with self.subTest(handed=type(handed)):
                    self.refused(NotWritten, read, handed)

    def test_very_long_texts_are_refused_in_good_time(self):
        began = time.perf_counter()
        for text in ("0" * 5000000, "(" * 5000000, ")" * 5000000, "(" + "9" * 5000000 + ")", "()" * 2500000):
            self.refused(NotWritten, read, text)
        self.assertLess(time.perf_counter() - began, 5)

    def test_an_answer_that_is_emptied_is_answered_whole_again(self):
        read("53(36)").clear()
        self.assertEqual(read("53(36)"), [5, 3, 36])


class Interface(unittest.TestCase):

    def test_arguments(self):
        self.assertEqual(list(inspect.signature(written).parameters), ["row"])
        self.assertEqual(list(inspect.signature(read).parameters), ["text"])


if __name__ == "__main__":
    unittest.main()
