"""The refusals, each of a class of its own."""


class TossError(ValueError):
    """Any refusal."""


class NotARow(TossError):
    """What was handed in is no row of throws."""


class Clash(TossError):
    """A row where a pattern is due, with the pair of beats whose throws land together."""

    def __init__(self, beats):
        self.beats = beats


class OtherLength(TossError):
    """Two patterns of unlike lengths."""


class OutOfBounds(TossError):
    """A number that is no whole number within its bounds, handed in or come of what was."""


class NotPlain(TossError):
    """A throw below nought where none may be."""


class NoThrow(TossError):
    """A throw that the state does not let."""


class NotWritten(TossError):
    """A text that no row is written as."""
