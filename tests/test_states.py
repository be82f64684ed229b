import collections
import inspect
import random
import unittest

from cases import RefusalCase, TiesCase
from samples import BOUND, landings_in, next_landings, not_whole_from, plain_patterns, state_with
from tossbook.errors import NotARow, NoThrow, NotPlain, OutOfBounds
from tossbook.rows import balls_of
from tossbook.states import parted, states_of, thrown

ALL_60 = 2 ** 60 - 1
OUT_OF_BOUNDS_STATES = not_whole_from(0, ALL_60) + [2 ** 61 + 1, 2 ** 64]
OUT_OF_BOUNDS_THROWS = not_whole_from(0, 60)


def some_states():
    chance = random.Random(10)
    yield from (0, 1, 2, 3, 2 ** 59, 2 ** 59 + 1, 2 ** 58, ALL_60, ALL_60 - 1, ALL_60 - 2 ** 59, ALL_60 - 2 ** 30)
    for count in range(300):
        yield chance.getrandbits(60)
        yield chance.getrandbits(60) & chance.getrandbits(60) | 1


def state_by_beats(pattern, beat):
    """The state ahead of a beat, of each ball thrown at one of the hundred beats ahead of it."""
    landings = [thrown_at + pattern[thrown_at % len(pattern)] for thrown_at in range(beat - 100, beat)]
    return sum(2 ** (landing - beat) for landing in landings if landing >= beat)


def wandering_patterns():
    """Patterns of sixty throws that come to few states, each of them often."""
    chance = random.Random(12)
    found = 0
    while found < 40:
        first = state = chance.choice([1, 2, 3, 5, 7, 11, 13, 14, 19, 21])
        pattern = []
        for beat in range(60):
            led = [(throw, next_landings(landings_in(state), throw)) for throw in range(6)]
            throw, landings = chance.choice([pair for pair in led if pair[1] is not None])
            state = state_with(landings)
            pattern.append(throw)
        if state == first:
            found += 1
            yield pattern


def throws_from_states(states, throws):
    return collections.Counter(zip(states, throws))


class Thrown(RefusalCase):

    def test_named_states(self):
        self.assertEqual(thrown(0, 0), 0)
        self.assertEqual(thrown(2, 0), 1)
        self.assertEqual(thrown(7, 3), 7)
        self.assertEqual(thrown(7, 5), 19)
        self.assertEqual(thrown(19, 2), 11)
        self.assertEqual(thrown(19, 3), 13)
        self.refused(NoThrow, thrown, 7, 0)
        self.refused(NoThrow, thrown, 7, 2)
        self.refused(NoThrow, thrown, 19, 1)
        self.refused(NoThrow, thrown, 19, 4)
        self.refused(NoThrow, thrown, 6, 3)

    def test_each_throw_from_a_state(self):
        for state in some_states():
            landings = landings_in(state)
            for throw in range(61):
                expected = next_landings(landings, throw)
                if expected is None:
                    self.refused(NoThrow, thrown, state, throw)
                else:
                    self.assertEqual(thrown(state, throw), state_with(expected), (state, throw))

    def test_from_no_bit(self):
        self.assertEqual(thrown(0, 0), 0)
        for throw in range(1, 61):
            self.refused(NoThrow, thrown, 0, throw)

    def test_from_bit_0(self):
        self.refused(NoThrow, thrown, 1, 0)
        for throw in range(1, 61):
            self.assertEqual(thrown(1, throw), 2 ** (throw - 1))

    def test_from_bit_59(self):
        self.assertEqual(thrown(2 ** 59, 0), 2 ** 58)
        for throw in range(1, 61):
            self.refused(NoThrow, thrown, 2 ** 59, throw)
        self.refused(NoThrow, thrown, 2 ** 59 + 1, 59)
        self.assertEqual(thrown(2 ** 59 + 1, 60), 2 ** 58 + 2 ** 59)

    def test_from_all_60_bits(self):
        self.assertEqual(thrown(ALL_60, 60), ALL_60)
        for throw in range(60):
            self.refused(NoThrow, thrown, ALL_60, throw)

    def test_no_state(self):
        for state in OUT_OF_BOUNDS_STATES:
            for throw in (0, 1, 60, 61, None):
                with self.subTest(state=type(state), throw=throw):
                    self.refused(OutOfBounds, thrown, state, throw)

    def test_no_throw_from_0_to_60(self):
        for throw in OUT_OF_BOUNDS_THROWS:
            for state in (0, 1, 2, 2 ** 59, ALL_60, -1, None):
                with self.subTest(throw=type(throw), state=state):
                    self.refused(OutOfBounds, thrown, state, throw)

    def test_an_answer_is_a_whole_number(self):
        self.assertIs(type(thrown(0, 0)), int)
        self.assertIs(type(thrown(1, 1)), int)


class StatesOf(RefusalCase):

    def test_named_patterns(self):
        self.assertEqual(states_of([0]), [0])
        self.assertEqual(states_of([1]), [1])
        self.assertEqual(states_of([3]), [7])
        self.assertEqual(states_of([60]), [ALL_60])
        self.assertEqual(states_of([4, 4, 1]), [7, 11, 13])
        self.assertEqual(states_of([5, 1]), [11, 21])
        self.assertEqual(states_of([60] + [0] * 59), [1] + [2 ** bit for bit in range(59, 0, -1)])

    def test_all_balls_thrown_ahead_of_each_beat(self):
        for pattern in plain_patterns():
            expected = [state_by_beats(pattern, beat) for beat in range(len(pattern))]
            self.assertEqual(states_of(pattern), expected, pattern)

    def test_each_throw_leads_to_the_next_one(self):
        for pattern in plain_patterns():
            states = states_of(pattern)
            self.assertIs(type(states), list)
            self.assertEqual(len(states), len(pattern))
            for state, throw, following in zip(states, pattern, states[1:] + states[:1]):
                self.assertEqual(len(landings_in(state)), balls_of(pattern))
                self.assertEqual(thrown(state, throw), following, pattern)


class Parted(RefusalCase):

    def is_least_loop(self, loop):
        self.assertIs(type(loop), tuple)
        first, throws = loop
        self.assertIs(type(first), int)
        self.assertIs(type(throws), list)
        states = [first]
        for throw in throws:
            states.append(thrown(states[-1], throw))
        self.assertEqual(states.pop(), first)
        self.assertGreaterEqual(len(states), 1)
        self.assertEqual(len(set(states)), len(states))
        return throws_from_states(states, throws)

    def is_parted(self, pattern):
        loops = parted(pattern)
        self.assertIs(type(loops), list)
        together = collections.Counter()
        for loop in loops:
            together += self.is_least_loop(loop)
        self.assertEqual(together, throws_from_states(states_of(pattern), pattern), pattern)
        return loops

    def test_named_patterns(self):
        self.assertEqual(parted([3]), [(7, [3])])
        self.assertEqual(parted([3, 3, 3]), [(7, [3]), (7, [3]), (7, [3])])
        self.assertEqual(parted([0]), [(0, [0])])
        self.assertEqual(sorted(parted([3, 4, 2])), [(7, [3]), (7, [4, 2])])
        self.assertEqual(len(parted([4, 2, 3, 4, 2])), 3)

    def test_all_that_is_asked_of_them(self):
        for pattern in plain_patterns():
            self.is_parted(pattern)

    def test_one_least_loop(self):
        for pattern in ([4, 4, 1], [5, 3, 1], [5, 1], [60] + [0] * 59, [2, 0]):
            self.assertEqual(len(self.is_parted(pattern)), 1, pattern)

    def test_one_written_several_times(self):
        for pattern, times in (([4, 4, 1], 2), ([4, 4, 1], 20), ([5, 1], 30), ([3], 60), ([60], 60), ([0], 60),
                               ([5, 3, 1], 7), ([60, 0], 30)):
            self.assertEqual(len(self.is_parted(pattern * times)), times, pattern)

    def test_loops_within_loops(self):
        self.assertEqual(sorted(self.is_parted([4, 4, 5, 0, 2])), [(7, [4, 2]), (11, [4, 5, 0])])
        self.assertEqual(len(self.is_parted([4] + [4, 5, 0] * 19 + [2])), 20)
        self.assertEqual(len(self.is_parted([5, 3, 1] * 3 + [3] * 5 + [4, 2] * 7)), 15)

    def test_sixty_throws_that_wander(self):
        parts = [len(self.is_parted(pattern)) for pattern in wandering_patterns()]
        self.assertGreater(max(parts), 3)


class NoStates(RefusalCase):

    def test_a_throw_below_nought(self):
        for call in (states_of, parted):
            for pattern in ([-1], [1, -1], [-1, 1], [-BOUND], [0] * 59 + [-60], [3, 3, -3]):
                with self.subTest(call.__name__, pattern=pattern):
                    self.refused(NotPlain, call, pattern)

    def test_a_throw_above_60(self):
        for call in (states_of, parted):
            for pattern in ([61], [0, 62], [62, 0], [BOUND], [61] * 60, [0] * 59 + [120]):
                with self.subTest(call.__name__, pattern=pattern):
                    self.refused(OutOfBounds, call, pattern)

    def test_below_nought_ahead_of_above_60(self):
        for call in (states_of, parted):
            for pattern in ([62, -2], [-2, 62], [61, -1], [0, -3, 63], [63, -3, 0], [BOUND, -BOUND]):
                with self.subTest(call.__name__, pattern=pattern):
                    self.refused(NotPlain, call, pattern)

    def test_no_row_then_no_pattern_ahead_of_both(self):
        for call in (states_of, parted):
            self.refused(NotARow, call, [-1, True])
            self.refused(NotARow, call, [61, None])
            self.clashes((0, 1), call, [0, -1])
            self.clashes((0, 1), call, [62, 61])


class NothingTied(TiesCase):

    def test_neither_to_the_pattern_nor_to_an_answer(self):
        for pattern in ([4, 4, 1], [3, 3, 3], [3, 4, 2]):
            self.tied_to_nothing(states_of, pattern)
            self.tied_to_nothing(parted, pattern)

    def test_no_loop_to_another(self):
        loops = parted([3, 3, 3])
        loops[0][1].clear()
        self.assertEqual(loops[1:], [(7, [3]), (7, [3])])


class Interface(unittest.TestCase):

    def test_arguments(self):
        for function, names in ((thrown, ["state", "throw"]), (states_of, ["pattern"]), (parted, ["pattern"])):
            self.assertEqual(list(inspect.signature(function).parameters), names)


if __name__ == "__main__":
    unittest.main()
