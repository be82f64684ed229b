"""Changes, which make another pattern of a pattern and can be undone."""

from tossbook.joining import gaps, lifted, mirrored, turned
from tossbook.rows import check_pattern, is_whole
from tossbook.swaps import neighbours, swapped


def unchanged(pattern):
    """The pattern as it is, in a list of its own."""
    check_pattern(pattern)
    return list(pattern)


def opposite(number):
    """As much the other way."""
    # True would become the whole number -1; so what is none stays, to be refused where it is done.
    return -number if is_whole(number) else number


class Change:
    """A change that leaves all as it is."""

    def done(self, pattern):
        """The pattern that the change makes."""
        return unchanged(pattern)

    def undone(self):
        """The change that undoes it."""
        return Change()

    def balls(self, many):
        """What becomes of a number of balls."""
        return many


class Turn(Change):
    """The pattern begins with the throw of beat k."""

    def __init__(self, k):
        self.k = k

    def done(self, pattern):
        """The pattern that the change makes."""
        return turned(pattern, self.k)

    def undone(self):
        """The change that undoes it."""
        return Turn(opposite(self.k))


class Lift(Change):
    """Each throw becomes k more."""

    def __init__(self, k):
        self.k = k

    def done(self, pattern):
        """The pattern that the change makes."""
        return lifted(pattern, self.k)

    def undone(self):
        """The change that undoes it."""
        return Lift(opposite(self.k))

    def balls(self, many):
        """What becomes of a number of balls."""
        return many + self.k


class Swap(Change):
    """Each of the beats i and j lands where the other did."""

    def __init__(self, i, j):
        self.i = i
        self.j = j

    def done(self, pattern):
        """The pattern that the change makes."""
        return swapped(pattern, self.i, self.j)

    def undone(self):
        """The change that undoes it."""
        return Swap(self.i, self.j)


class Neighbours(Change):
    """Each of the beats k and k + 1 lands where the other did."""

    def __init__(self, k):
        self.k = k

    def done(self, pattern):
        """The pattern that the change makes."""
        return neighbours(pattern, self.k)

    def undone(self):
        """The change that undoes it."""
        return Neighbours(self.k)


class Mirror(Change):
    """Each beat becomes its opposite, thrown from where it landed."""

    def done(self, pattern):
        """The pattern that the change makes."""
        return mirrored(pattern)

    def undone(self):
        """The change that undoes it."""
        return Mirror()


class Gaps(Change):
    """Each throw becomes h less the throw at the opposite beat."""

    def __init__(self, h):
        self.h = h

    def done(self, pattern):
        """The pattern that the change makes."""
        return gaps(pattern, self.h)

    def undone(self):
        """The change that undoes it."""
        return Gaps(self.h)

    def balls(self, many):
        """What becomes of a number of balls."""
        return self.h - many


class Changes(Change):
    """A row of changes, one after the other."""

    def __init__(self, rows):
        steps = []
        for change in rows:
            # A row within the row is taken in step by step: however deep rows lie in rows, no call goes deep.
            if isinstance(change, Changes):
                steps.extend(change.steps)
            else:
                steps.append(change)
        self.steps = tuple(steps)

    def done(self, pattern):
        """The pattern that the change makes."""
        answer = unchanged(pattern)
        for change in self.steps:
            answer = change.done(answer)
        return answer

    def undone(self):
        """The change that undoes it."""
        return Changes([change.undone() for change in reversed(self.steps)])

    def balls(self, many):
        """What becomes of a number of balls."""
        answer = many
        for change in self.steps:
            answer = change.balls(answer)
        return answer
