import inspect
import itertools
import unittest

from cases import RefusalCase
from samples import landings_in, next_landings, not_whole_from, state_with
from tossbook.errors import OutOfBounds
from tossbook.states import thrown
from tossbook.ways import distances, way

GREATEST = range(1, 11)
NO_GREATEST = not_whole_from(1, 10)


def states_under(most, balls):
    """All states of so many balls, rising."""
    return sorted(state_with(landings) for landings in itertools.combinations(range(most), balls))


def throws_on(most, balls):
    """For each of the states what each throw that is let leads to."""
    onward = {}
    for state in states_under(most, balls):
        led = [next_landings(landings_in(state), throw) for throw in range(most + 1)]
        onward[state] = [state_with(landings) for landings in led if landings is not None]
    return onward


def searched(onward, first):
    """How many throws lead from the first state to each, by a search with one throw more at a time."""
    many = {first: 0}
    reached = [first]
    while reached:
        state = reached.pop(0)
        for following in onward[state]:
            if following not in many:
                many[following] = many[state] + 1
                reached.append(following)
    return many


class Distances(RefusalCase):

    def test_named_states(self):
        self.assertEqual(distances(0, 1), {0: 0})
        self.assertEqual(distances(1, 1), {1: 0})
        self.assertEqual(distances(1, 2), {1: 0, 2: 1})
        self.assertEqual(distances(2, 2), {1: 1, 2: 0})
        self.assertEqual(distances(1, 4), {1: 0, 2: 1, 4: 2, 8: 3})
        self.assertEqual(distances(8, 4), {1: 1, 2: 2, 4: 3, 8: 0})
        self.assertEqual(distances(1023, 10), {1023: 0})

    def test_of_just_the_states_of_as_many_balls_rising(self):
        for most in GREATEST:
            for balls in range(most + 1):
                states = states_under(most, balls)
                for state in states[::1 + len(states) // 20]:
                    answer = distances(state, most)
                    self.assertIs(type(answer), dict)
                    self.assertEqual(list(answer), states, (state, most))
                    self.assertEqual(answer[state], 0)

    def test_against_a_search(self):
        for most in GREATEST:
            for balls in range(most + 1):
                onward = throws_on(most, balls)
                told = {state: distances(state, most) for state in onward}
                for first in list(onward)[::1 + len(onward) // 30]:
                    many = searched(onward, first)
                    self.assertEqual({state: told[state][first] for state in onward}, many, (most, first))

    def test_no_greatest_throw(self):
        for most in NO_GREATEST:
            for state in (0, 1, None, -1):
                with self.subTest(most=type(most), state=state):
                    self.refused(OutOfBounds, distances, state, most)

    def test_no_state_under_the_greatest_throw(self):
        for most in GREATEST:
            for state in not_whole_from(0, 2 ** most - 1) + [2 ** 60, 2 ** most, -1]:
                with self.subTest(most=most, state=type(state)):
                    self.refused(OutOfBounds, distances, state, most)

    def test_an_answer_that_is_emptied_is_answered_whole_again(self):
        distances(1, 2).clear()
        self.assertEqual(distances(1, 2), {1: 0, 2: 1})


class Way(RefusalCase):

    def leads(self, one, other, most):
        throws = way(one, other, most)
        self.assertIs(type(throws), list)
        self.assertEqual(len(throws), distances(other, most)[one], (one, other, most))
        state = one
        for throw in throws:
            self.assertIn(throw, range(most + 1))
            state = thrown(state, throw)
        self.assertEqual(state, other, (one, other, most))

    def test_named_states(self):
        self.assertEqual(way(1, 2, 2), [2])
        self.assertEqual(way(2, 1, 2), [0])
        self.assertEqual(way(7, 11, 4), [4])
        self.assertEqual(way(7, 19, 5), [5])
        self.assertEqual(way(8, 1, 4), [0, 0, 0])
        self.assertEqual(way(1, 512, 10), [10])

    def test_an_empty_list_for_a_state_to_itself(self):
        for most in GREATEST:
            for state in range(0, 2 ** most, 1 + 2 ** most // 60):
                self.assertEqual(way(state, state, most), [])

    def test_each_to_each_of_few_states(self):
        for most in (1, 2, 3, 4, 5):
            for balls in range(most + 1):
                for one, other in itertools.product(states_under(most, balls), repeat=2):
                    self.leads(one, other, most)

    def test_some_to_some_of_many_states(self):
        for most in (6, 7, 8, 9, 10):
            for balls in range(most + 1):
                states = states_under(most, balls)
                few = states[::1 + len(states) // 5] + states[-1:]
                for one, other in itertools.product(few, repeat=2):
                    self.leads(one, other, most)

    def test_no_greatest_throw(self):
        for most in NO_GREATEST:
            for states in ((0, 0), (1, 1), (1, 2), (None, 1), (1, None)):
                with self.subTest(most=type(most), states=states):
                    self.refused(OutOfBounds, way, states[0], states[1], most)

    def test_no_state_under_the_greatest_throw(self):
        for most in GREATEST:
            for state in not_whole_from(0, 2 ** most - 1) + [2 ** most, 2 ** 60, -1]:
                with self.subTest(most=most, state=type(state)):
                    self.refused(OutOfBounds, way, state, 1, most)
                    self.refused(OutOfBounds, way, 1, state, most)
                    self.refused(OutOfBounds, way, state, state, most)

    def test_unlike_counts_of_bits(self):
        for most in (1, 2, 3, 5, 10):
            for one, other in itertools.product(range(0, 2 ** most, 1 + 2 ** most // 20), repeat=2):
                if one.bit_count() != other.bit_count():
                    self.refused(OutOfBounds, way, one, other, most)

    def test_an_answer_that_is_emptied_is_answered_whole_again(self):
        for one, other in ((7, 11), (7, 7)):
            whole = list(way(one, other, 4))
            way(one, other, 4).clear()
            self.assertEqual(way(one, other, 4), whole)


class Interface(unittest.TestCase):

    def test_arguments(self):
        for function, names in ((distances, ["state", "most"]), (way, ["one", "other", "most"])):
            self.assertEqual(list(inspect.signature(function).parameters), names)


if __name__ == "__main__":
    unittest.main()
