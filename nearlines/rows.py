"""The rows of a program: which words there are, and which rows fit."""

from nearlines.errors import BadRow
from nearlines.whole import MOST, ROUND, is_whole

# What each number behind a word stands for.
SHAPES = {
    "set": ("box", "number"),
    "copy": ("box", "box"),
    "add": ("box", "box", "box"),
    "sub": ("box", "box", "box"),
    "fetch": ("box", "box"),
    "store": ("box", "box"),
    "less": ("box", "box", "place"),
    "jump": ("place",),
    "tell": ("box",),
}


def fits(row, size, count):
    """Tell whether anything at all is a row that fits size boxes and count rows."""
    if not _has_shape(row):
        return False
    # The place behind all rows is one to go on at, too.
    last = {"box": size - 1, "number": ROUND - 1, "place": count}
    kinds = SHAPES[row[0]]
    return all([is_whole(thing, 0, last[kind]) for thing, kind in zip(row[1:], kinds)])


def _has_shape(row):
    """Tell whether anything at all is a tuple of a word and as many things as it has numbers."""
    if not isinstance(row, tuple) or len(row) == 0:
        return False
    word = row[0]
    # Only a text is looked up: a list, for one, cannot be a key.
    if not isinstance(word, str) or word not in SHAPES:
        return False
    return len(row) == 1 + len(SHAPES[word])


def checked(rows, size):
    """Give a new list of the rows of a program for size boxes, or refuse it with BadRow."""
    if len(rows) > MOST:
        raise BadRow(f"there are at most {MOST} rows, not {len(rows)}")
    for place, row in enumerate(rows):
        # The message leaves out the row: it may be anything, and not all can be shown.
        if not fits(row, size, len(rows)):
            raise BadRow(f"row {place} does not fit")
    return list(rows)
