import inspect
import unittest

from cases import PatternCase, RefusalCase, TiesCase
from samples import BOUND, CLASHING, NOT_ROWS, NOT_THROWS, long_patterns, not_whole_from, small_patterns, some_patterns
from tossbook import changes
from tossbook.changes import Change, Changes, Gaps, Lift, Mirror, Neighbours, Swap, Turn
from tossbook.errors import NotARow, OutOfBounds
from tossbook.joining import gaps, lifted, mirrored, turned
from tossbook.rows import balls_of
from tossbook.swaps import neighbours, swapped

# Each class with its numbers' names, and the function of the same name.
KINDS = (
    (Change, [], lambda pattern: list(pattern)),
    (Turn, ["k"], turned),
    (Lift, ["k"], lifted),
    (Swap, ["i", "j"], swapped),
    (Neighbours, ["k"], neighbours),
    (Mirror, [], mirrored),
    (Gaps, ["h"], gaps),
)

NUMBERS = (0, 1, -1, 2, 5, -7, 60, -61, 1000, BOUND, -BOUND)


def numbers_for(kind, length):
    """Numbers that the change may have for a pattern of the length."""
    if kind in (Change, Mirror):
        return [()]
    if kind is Swap:
        step = 1 + length // 6
        return [(i, j) for i in range(0, length, step) for j in range(length - 1, i, -step)]
    if kind is Neighbours:
        return [(k,) for k in range(length)] if length > 1 else []
    return [(number,) for number in NUMBERS]


def made_changes(pattern):
    """Each kind of change with numbers that the pattern lets, and what the function of the same name tells."""
    for kind, names, function in KINDS:
        for numbers in numbers_for(kind, len(pattern)):
            try:
                expected = function(pattern, *numbers)
            except OutOfBounds:
                continue
            yield kind(*numbers), expected


def rows_of_changes():
    """Rows of changes, each with the same changes in one flat list; for patterns of three throws."""
    turn, lift, swap, mirror, gap = Turn(1), Lift(4), Swap(0, 1), Mirror(), Gaps(9)
    last = Neighbours(2)
    yield Changes([]), []
    yield Changes([turn]), [turn]
    yield Changes([Change()]), []
    yield Changes([turn, lift, swap, mirror, gap, last]), [turn, lift, swap, mirror, gap, last]
    yield Changes([last, gap, mirror, swap, lift, turn]), [last, gap, mirror, swap, lift, turn]
    yield Changes([turn, turn]), [turn, turn]
    yield Changes([Changes([])]), []
    yield Changes([Changes([turn, swap]), lift]), [turn, swap, lift]
    yield Changes([lift, Changes([gap, Changes([swap, turn]), Changes([]), last]), gap]), [lift, gap, swap, turn, last,
                                                                                         gap]
    inner = Changes([swap, gap, last])
    yield Changes([inner, turn, inner]), [swap, gap, last, turn, swap, gap, last]


class Kinds(PatternCase):

    def test_each_stands_straight_under_change(self):
        for name in ("Turn", "Lift", "Swap", "Neighbours", "Mirror", "Gaps", "Changes"):
            self.assertEqual(getattr(changes, name).__bases__, (Change,), name)
        self.assertEqual(Change.__bases__, (object,))

    def test_named_patterns(self):
        self.assertEqual(Change().done([5, 3, 1]), [5, 3, 1])
        self.assertEqual(Turn(1).done([5, 3, 1]), [3, 1, 5])
        self.assertEqual(Turn(1).undone().done([3, 1, 5]), [5, 3, 1])
        self.assertEqual(Lift(2).done([5, 3, 1]), [7, 5, 3])
        self.assertEqual(Lift(2).undone().done([7, 5, 3]), [5, 3, 1])
        self.assertEqual(Swap(0, 2).done([5, 3, 1]), [3, 3, 3])
        self.assertEqual(Neighbours(2).done([5, 3, 1]), [0, 3, 6])
        self.assertEqual(Mirror().done([5, 3, 1]), [1, 5, 3])
        self.assertEqual(Gaps(5).done([4, 2, 3]), [1, 2, 3])

    def test_done_as_the_function_of_the_same_name_tells(self):
        for pattern in some_patterns()[::3]:
            for change, expected in made_changes(pattern):
                answer = change.done(pattern)
                self.assertEqual(answer, expected)
                self.assertIs(type(answer), list)
                self.assertEqual(change.done(pattern), expected)

    def test_what_undoes_it_leads_back(self):
        for pattern in some_patterns()[::3]:
            for change, expected in made_changes(pattern):
                undoing = change.undone()
                self.assertIsInstance(undoing, Change)
                self.assertEqual(undoing.done(expected), pattern, (change, pattern))
                self.assertEqual(undoing.balls(balls_of(expected)), balls_of(pattern))

    def test_undone_twice_does_the_same(self):
        for pattern in small_patterns()[::5] + list(long_patterns())[::7]:
            for change, expected in made_changes(pattern):
                again = change.undone().undone()
                self.assertEqual(again.done(pattern), expected)
                self.assertEqual(again.balls(3), change.balls(3))

    def test_what_becomes_of_the_balls(self):
        for pattern in some_patterns()[::3]:
            for change, expected in made_changes(pattern):
                self.is_pattern(expected, len(pattern), change.balls(balls_of(pattern)))

    def test_balls_of_named_changes(self):
        for many in (0, 3, -4, BOUND):
            for change in (Change(), Turn(5), Swap(0, 1), Neighbours(2), Mirror(), Changes([])):
                self.assertEqual(change.balls(many), many)
            self.assertEqual(Lift(5).balls(many), many + 5)
            self.assertEqual(Lift(5).undone().balls(many), many - 5)
            self.assertEqual(Gaps(5).balls(many), 5 - many)
            self.assertEqual(Gaps(5).undone().balls(many), 5 - many)
            self.assertEqual(Changes([Lift(5), Gaps(9), Turn(2), Lift(-1)]).balls(many), 9 - (many + 5) - 1)


class RowsOfChanges(PatternCase):

    def test_one_after_the_other(self):
        for change, flat in rows_of_changes():
            for pattern in ([5, 3, 1], [4, 4, 1], [3, 3, 3], [-1, 5, -4]):
                expected, many = list(pattern), balls_of(pattern)
                for step in flat:
                    expected, many = step.done(expected), step.balls(many)
                self.assertEqual(change.done(pattern), expected)
                self.assertEqual(change.balls(balls_of(pattern)), many)
                self.is_pattern(expected, 3, many)
                self.assertEqual(change.undone().done(expected), pattern)
                self.assertEqual(change.undone().balls(many), balls_of(pattern))
                self.assertEqual(change.undone().undone().done(pattern), expected)
                self.assertIsInstance(change.undone(), Change)

    def test_the_order_matters(self):
        self.assertEqual(Changes([Turn(1), Swap(0, 1)]).done([5, 3, 1]), [2, 2, 5])
        self.assertEqual(Changes([Swap(0, 1), Turn(1)]).done([5, 3, 1]), [4, 1, 4])
        self.assertEqual(Changes([Turn(1), Swap(0, 1)]).undone().done([2, 2, 5]), [5, 3, 1])
        self.assertEqual(Changes([Lift(1), Gaps(9)]).done([3]), [5])
        self.assertEqual(Changes([Gaps(9), Lift(1)]).done([3]), [7])

    def test_many_changes_for_long_patterns(self):
        steps = [step for k in range(50) for step in (Turn(k), Neighbours(k % 7), Mirror(), Lift(k - 25), Gaps(30 - k))]
        change = Changes(steps)
        for pattern in long_patterns():
            if len(pattern) >= 7:
                answer = change.done(pattern)
                self.is_pattern(answer, len(pattern), change.balls(balls_of(pattern)))
                self.assertEqual(change.undone().done(answer), pattern)

    def test_the_list_may_be_changed_behind_the_call(self):
        for spoil in (list.clear, list.pop, list.reverse, lambda handed: handed.append(Lift(7)),
                      lambda handed: handed.insert(0, Gaps(1)), lambda handed: handed.append(None)):
            handed = [Turn(1), Swap(0, 1), Lift(2)]
            change = Changes(handed)
            undoing = change.undone()
            whole = Changes([change, Changes(handed)])
            spoil(handed)
            self.assertEqual(change.done([5, 3, 1]), [4, 4, 7])
            self.assertEqual(undoing.done([4, 4, 7]), [5, 3, 1])
            self.assertEqual(change.undone().done([4, 4, 7]), [5, 3, 1])
            self.assertEqual(change.balls(3), 5)
            self.assertEqual(whole.balls(3), 7)
            self.assertEqual(whole.undone().done(whole.done([5, 3, 1])), [5, 3, 1])

    def test_the_list_handed_in_is_as_before(self):
        steps = [Turn(1), Changes([Lift(2)]), Mirror()]
        handed = list(steps)
        change = Changes(handed)
        change.undone().done(change.done([5, 3, 1]))
        self.assertEqual(len(handed), 3)
        for one, other in zip(handed, steps):
            self.assertIs(one, other)

    def test_a_list_that_holds_what_was_made_of_it(self):
        handed = [Lift(1)]
        handed.append(Changes(handed))
        self.assertEqual(Changes(handed).done([3]), [5])
        handed.append(Changes(handed))
        self.assertEqual(Changes(handed).done([3]), [7])

    def test_rows_within_rows_however_deep(self):
        change = Changes([Lift(1)])
        for depth in range(5000):
            change = Changes([change, Turn(1)] if depth % 2 else [Swap(0, 2), change])
        answer = change.done([5, 3, 1])
        self.is_pattern(answer, 3, 4)
        self.assertEqual(change.balls(3), 4)
        self.assertEqual(change.undone().done(answer), [5, 3, 1])

    def test_a_pattern_on_the_way_beyond_the_bounds_is_not_made(self):
        self.assertEqual(Changes([Lift(BOUND - 3), Lift(-BOUND)]).done([3]), [3 - 3])
        self.refused(OutOfBounds, Changes([Lift(BOUND - 2), Lift(-BOUND)]).done, [3])
        self.refused(OutOfBounds, Changes([Changes([Gaps(-BOUND)]), Gaps(0)]).done, [3])


class NothingTied(TiesCase):

    def test_neither_to_the_pattern_nor_to_an_answer(self):
        for change in (Change(), Turn(0), Turn(1), Lift(0), Lift(1), Swap(0, 2), Neighbours(2), Mirror(), Gaps(0),
                       Changes([]), Changes([Change()]), Changes([Turn(0)]), Changes([Mirror(), Mirror()])):
            for pattern in ([4, 4, 1], [3, 3, 3]):
                self.tied_to_nothing(change.done, pattern)
                self.tied_to_nothing(change.undone().done, pattern)


class NumbersThatAreRefused(RefusalCase):

    def only_where_done(self, kind, numbers, pattern):
        """The change and what undoes it are made, in rows too, and are refused where they are done."""
        change = kind(*numbers)
        row = Changes([Change(), change])
        for made in (change, change.undone(), change.undone().undone(), row, row.undone(), Changes([row])):
            self.assertIsInstance(made, Change)
            self.refused(OutOfBounds, made.done, pattern)
            self.refused(NotARow, made.done, None)
            self.refused(NotARow, made.done, [2, 1, True])
            self.clashes((0, 1), made.done, [2, 1])

    def test_no_whole_number_within_the_bounds(self):
        for kind in (Turn, Lift, Gaps):
            for number in NOT_THROWS:
                with self.subTest(kind.__name__, number=type(number)):
                    self.only_where_done(kind, [number], [0, 0, 0])

    def test_no_beat_that_the_pattern_has(self):
        for pattern in ([0], [5, 3, 1], [0] * 60):
            for beat in not_whole_from(0, len(pattern) - 1):
                with self.subTest(length=len(pattern), beat=type(beat)):
                    self.only_where_done(Neighbours, [beat], pattern)
                    self.only_where_done(Swap, [0, beat], pattern)
                    self.only_where_done(Swap, [beat, len(pattern) - 1], pattern)
        self.only_where_done(Neighbours, [0], [3])
        self.only_where_done(Swap, [0, 0], [3])
        self.only_where_done(Swap, [1, 0], [3, 3])
        self.only_where_done(Swap, [1, 1], [3, 3])

    def test_a_beat_that_one_pattern_has_and_another_has_not(self):
        change = Changes([Swap(1, 3), Neighbours(3)])
        self.refused(OutOfBounds, change.done, [3, 3, 3])
        self.assertEqual(change.done([3, 3, 3, 3]), [0, 5, 3, 4])
        self.refused(OutOfBounds, change.undone().done, [3, 3, 3])
        self.assertEqual(change.undone().done([0, 5, 3, 4]), [3, 3, 3, 3])

    def test_balls_of_numbers_beyond_the_bounds(self):
        for number in (BOUND + 1, -BOUND - 1, 10 ** 30):
            self.assertEqual(Lift(number).balls(3), 3 + number)
            self.assertEqual(Lift(number).undone().balls(3 + number), 3)
            self.assertEqual(Gaps(number).balls(3), number - 3)
            self.assertEqual(Gaps(number).undone().balls(number - 3), 3)
            self.assertEqual(Turn(number).undone().balls(3), 3)
            self.assertEqual(Changes([Lift(number), Gaps(0)]).undone().balls(-3 - number), 3)

    def test_numbers_at_the_bounds(self):
        self.assertEqual(Turn(BOUND).undone().done(Turn(BOUND).done([5, 3, 1])), [5, 3, 1])
        self.assertEqual(Lift(-BOUND).undone().done(Lift(-BOUND).done([0])), [0])
        self.assertEqual(Gaps(BOUND).undone().done(Gaps(BOUND).done([BOUND, 0])), [BOUND, 0])

    def test_throws_that_come_of_it_beyond_the_bounds(self):
        for change, pattern in ((Lift(1), [BOUND]), (Lift(-1), [-BOUND]), (Gaps(1), [-BOUND]), (Gaps(-1), [BOUND]),
                                (Swap(0, 1), [BOUND] * 2), (Neighbours(1), [-BOUND] * 2)):
            self.refused(OutOfBounds, change.done, pattern)
            self.refused(OutOfBounds, Changes([change]).done, pattern)


class WhichComesFirst(RefusalCase):

    def test_no_row_then_no_pattern_ahead_of_a_number(self):
        refusing = [Turn(None), Lift(True), Swap("0", 1), Neighbours(-1), Gaps(BOUND + 1)]
        for change in refusing + [Changes(refusing), Changes([Changes([])]), Change(), Mirror()]:
            for made in (change, change.undone()):
                for case, handed in enumerate(NOT_ROWS):
                    with self.subTest(change=type(change), case=case):
                        self.refused(NotARow, made.done, handed)
                for row, pair in CLASHING:
                    self.clashes(pair, made.done, row)
                self.refused(NotARow, made.done, [2, 1, BOUND + 1])


class Interface(unittest.TestCase):

    def test_arguments(self):
        for kind, names, function in KINDS + ((Changes, ["rows"], None),):
            self.assertEqual(list(inspect.signature(kind).parameters), names)
            self.assertEqual(list(inspect.signature(kind.done).parameters), ["self", "pattern"])
            self.assertEqual(list(inspect.signature(kind.undone).parameters), ["self"])
            self.assertEqual(list(inspect.signature(kind.balls).parameters), ["self", "many"])

    def test_by_name(self):
        self.assertEqual(Turn(k=1).done(pattern=[5, 3, 1]), [3, 1, 5])
        self.assertEqual(Swap(i=0, j=2).done([5, 3, 1]), [3, 3, 3])
        self.assertEqual(Gaps(h=5).balls(many=3), 2)
        self.assertEqual(Changes(rows=[Lift(k=2), Neighbours(k=0)]).done([3, 3]), [6, 4])


if __name__ == "__main__":
    unittest.main()
