"""What several tests use: a row of each word, and things that are no whole numbers."""

# Each word with what its numbers stand for, as point 2 of the document lists them.
KINDS = {
    "set": ("box", "number"),
    "copy": ("box", "box"),
    "add": ("box", "box", "box"),
    "sub": ("box", "box", "box"),
    "fetch": ("box", "box"),
    "store": ("box", "box"),
    "less": ("box", "box", "place"),
    "jump": ("place",),
    "tell": ("box",),
}

# One hundred thousand figures: more than Python is willing to show.
HUGE = 10 ** 100000


def no_numbers():
    """New things of every kind that are no whole numbers."""
    return [True, False, None, "0", "", b"0", 0.0, 1.0, 0j, [0], [], (0,), (), {0: 0}, {0}, object(), int, len]


def deep():
    """A list in a list in a list and so on, deeper than Python is willing to show."""
    rows = []
    for _ in range(100000):
        rows = [rows]
    return rows
