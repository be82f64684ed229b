"""What holds over the whole program: its names, and which refusal comes first at each function."""

import importlib
import inspect
import unittest

from cases import RefusalCase
from samples import BOUND, CLASHING, NOT_ROWS, NOT_WHOLE, TAKE_A_PATTERN
from tossbook import changes, joining, states, swaps
from tossbook.errors import NotARow, OtherLength, TossError

INTERFACE = {
    "errors": {"TossError": None, "NotARow": None, "Clash": ["beats"], "OtherLength": None, "OutOfBounds": None,
               "NotPlain": None, "NoThrow": None, "NotWritten": None},
    "rows": {"clash_of": ["row"], "balls_of": ["pattern"], "even": ["length", "balls"]},
    "joining": {"after": ["one", "other"], "back": ["pattern"], "turned": ["pattern", "k"], "lifted": ["pattern", "k"],
                "mirrored": ["pattern"], "gaps": ["pattern", "h"], "rounds": ["pattern"]},
    "swaps": {"swapped": ["pattern", "i", "j"], "neighbours": ["pattern", "k"], "crossings": ["pattern"],
              "from_even": ["pattern"]},
    "states": {"thrown": ["state", "throw"], "states_of": ["pattern"], "parted": ["pattern"]},
    "ways": {"distances": ["state", "most"], "way": ["one", "other", "most"]},
    "counts": {"patterns": ["length", "balls"]},
    "changes": {"Change": [], "Turn": ["k"], "Lift": ["k"], "Swap": ["i", "j"], "Neighbours": ["k"], "Mirror": [],
                "Gaps": ["h"], "Changes": ["rows"]},
    "notes": {"written": ["row"], "read": ["text"]},
}

# Numbers of which each is refused wherever a number is due, whatever the pattern.
REFUSED_NUMBERS = NOT_WHOLE + [BOUND + 1, -BOUND - 1]

NUMBERED = (
    ("turned", joining.turned), ("lifted", joining.lifted), ("gaps", joining.gaps), ("neighbours", swaps.neighbours),
    ("swapped, first", lambda pattern, number: swaps.swapped(pattern, number, 1)),
    ("swapped, second", lambda pattern, number: swaps.swapped(pattern, 0, number)),
    ("Turn", lambda pattern, number: changes.Turn(number).done(pattern)),
    ("Lift", lambda pattern, number: changes.Lift(number).done(pattern)),
    ("Gaps", lambda pattern, number: changes.Gaps(number).done(pattern)),
    ("Neighbours", lambda pattern, number: changes.Neighbours(number).done(pattern)),
    ("Swap, first", lambda pattern, number: changes.Swap(number, 1).done(pattern)),
    ("Swap, second", lambda pattern, number: changes.Swap(0, number).done(pattern)),
    ("Changes", lambda pattern, number: changes.Changes([changes.Turn(number)]).done(pattern)),
)


class Interface(unittest.TestCase):

    def test_every_name_with_its_arguments(self):
        for module, names in INTERFACE.items():
            for name, arguments in names.items():
                with self.subTest(module, name=name):
                    thing = getattr(importlib.import_module("tossbook." + module), name)
                    if arguments is not None:
                        self.assertEqual(list(inspect.signature(thing).parameters), arguments)
                        needed = [part for part in inspect.signature(thing).parameters.values()
                                  if part.default is inspect.Parameter.empty]
                        self.assertEqual(len(needed), len(arguments))

    def test_every_refusal_can_be_made_and_taken_as_one(self):
        errors = importlib.import_module("tossbook.errors")
        for name in INTERFACE["errors"]:
            self.assertIsInstance(getattr(errors, name)((0, 1)), TossError)


class WhichComesFirst(RefusalCase):

    def test_no_row_ahead_of_a_clash(self):
        for name, call in TAKE_A_PATTERN:
            with self.subTest(name):
                for row in ([2, 1, True], [2, 1, None], [2, 1, BOUND + 1], [BOUND + 1, BOUND], [2, 1] * 31, (2, 1)):
                    self.refused(NotARow, call, row)

    def test_both_ahead_of_a_number(self):
        for name, call in NUMBERED:
            for number in REFUSED_NUMBERS:
                with self.subTest(name, number=type(number)):
                    for handed in NOT_ROWS:
                        self.refused(NotARow, call, handed, number)
                    for row, pair in CLASHING:
                        self.clashes(pair, call, row, number)

    def test_the_first_of_two_patterns_whole_ahead_of_the_other(self):
        for handed in NOT_ROWS:
            for row, pair in CLASHING:
                self.refused(NotARow, joining.after, handed, row)
                self.clashes(pair, joining.after, row, handed)
                self.refused(NotARow, joining.after, [3], handed)
                self.clashes(pair, joining.after, [3], row)
                self.clashes(pair, joining.after, row, [3])
        for row, pair in CLASHING:
            for other, other_pair in CLASHING:
                self.clashes(pair, joining.after, row, other)

    def test_lengths_ahead_of_throws_beyond_the_bounds(self):
        self.refused(OtherLength, joining.after, [BOUND], [BOUND] * 2)
        self.refused(OtherLength, joining.after, [-BOUND] * 60, [-BOUND])

    def test_a_clash_ahead_of_what_states_refuse(self):
        for call in (states.states_of, states.parted):
            self.clashes((0, 1), call, [0, -1])
            self.clashes((0, 1), call, [62, 61])
            self.refused(NotARow, call, [-1, True])


if __name__ == "__main__":
    unittest.main()
