"""Rows as texts: a word and its numbers, with one blank between."""

from nearlines.errors import BadRow
from nearlines.rows import SHAPES

FIGURES = 6


def shown(row):
    """Give the text of a row."""
    return " ".join([str(part) for part in row])


def read_row(line):
    """Give the row that a text writes, or refuse the text with BadRow."""
    # Split at each single blank, so that a blank too many leaves an empty part.
    word, *parts = line.split(" ")
    if word not in SHAPES:
        raise BadRow("the text does not begin with a word of a row")
    if len(parts) != len(SHAPES[word]):
        raise BadRow(f"behind {word} stand {len(SHAPES[word])} numbers, with one blank ahead of each")
    if not all([_is_number(part) for part in parts]):
        raise BadRow(f"each number has 1 to {FIGURES} figures and no noughts ahead")
    numbers = [int(part) for part in parts]
    return (word, *numbers)


def _is_number(part):
    """Tell whether a text is one to six figures without noughts ahead."""
    # There are figures beyond ASCII that isdigit takes and that no row is written with.
    if not (part.isascii() and part.isdigit()):
        return False
    return part == "0" or (len(part) <= FIGURES and not part.startswith("0"))
