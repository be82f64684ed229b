"""How a row is written, and what is read."""

from tossbook.errors import NotARow, NotWritten
from tossbook.rows import check_row

SIGNS = "0123456789abcdefghijklmnopqrstuvwxyz"
# 60 throws of ten signs each: (-1000000).
LONGEST_TEXT = 600


def throw_written(throw):
    """One throw as it is written."""
    if 0 <= throw < len(SIGNS):
        return SIGNS[throw]
    return f"({throw})"


def written(row):
    """The row as it is written."""
    check_row(row)
    return "".join([throw_written(throw) for throw in row])


def pieces_of(text):
    """The text cut into single signs, and brackets with what stands within them."""
    pieces = []
    place = 0
    while place < len(text):
        end = text.find(")", place) if text[place] == "(" else place
        if end < 0:
            raise NotWritten("a bracket is not closed")
        pieces.append(text[place:end + 1])
        place = end + 1
    return pieces


def number_of(figures):
    """The number that Python reads in figures."""
    try:
        number = int(figures)
    except ValueError:
        raise NotWritten("no number within brackets") from None
    return number


def throw_of(piece):
    """The throw that a piece of a text tells."""
    if piece.startswith("("):
        return number_of(piece[1:-1])
    if piece not in SIGNS:
        raise NotWritten("a sign that tells no throw")
    return SIGNS.index(piece)


def read(text):
    """The row that a text is written for."""
    if not isinstance(text, str):
        raise NotWritten("what is read is a text")
    if len(text) > LONGEST_TEXT:
        raise NotWritten("longer than any row is written")
    row = [throw_of(piece) for piece in pieces_of(text)]
    try:
        again = written(row)
    except NotARow:
        raise NotWritten("a row has 1 to 60 throws from -1000000 to 1000000") from None
    # Python reads a number in more ways than it is written here: with blanks, + or _, noughts, other alphabets.
    if again != text:
        raise NotWritten("a number is not written so")
    return row
