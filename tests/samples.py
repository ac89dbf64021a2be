"""What several tests use: a row of each word, and things that are no whole numbers."""

# Each word with what its numbers stand for, as point 2 of the document lists them.
KINDS = {
    "set": ("box", "number"),
    "copy": ("box", "box"),
    "add": ("box", "box", "box"),
    "sub": ("box", "box", "box"),
    "fetch": ("box", "box"),
    "store": ("box", "box"),
    "less": ("box", "box", "place"),
    "jump": ("place",),
    "tell": ("box",),
}

# The rules by which lines go.
RULES = ("least", "first")

# One hundred thousand figures: more than Python is willing to show.
HUGE = 10 ** 100000


def no_numbers():
    """New things of every kind that are no whole numbers."""
    return [True, False, None, "0", "", b"0", 0.0, 1.0, 0j, [0], [], (0,), (), {0: 0}, {0}, object(), int, len]


def deep():
    """A list in a list in a list and so on, deeper than Python is willing to show."""
    rows = []
    for _ in range(100000):
        rows = [rows]
    return rows


class Draw:
    """Draws numbers that are the same in each run of the tests."""

    def __init__(self, seed):
        self.state = seed

    def below(self, limit):
        """A whole number from nought, below the limit."""
        self.state = (self.state * 6364136223846793005 + 1442695040888963407) % 2 ** 64
        return (self.state >> 33) % limit

    def one_of(self, things):
        return things[self.below(len(things))]

    def boxes(self, size):
        """Numbers of all sizes, small ones often, so that pointed boxes and comparisons differ."""
        return [self.below(self.one_of((3, 10, 250, 1000000))) for _ in range(size)]

    def row(self, size, count):
        """A row that fits so many boxes and so many rows."""
        word = self.one_of(list(KINDS))
        limits = {"box": size, "number": 1000000, "place": count + 1}
        return (word, *[self.below(limits[kind]) for kind in KINDS[word]])

    def program(self, size, count):
        return [self.row(size, count) for _ in range(count)]

    def touches(self, count, size):
        """A row of touches; every other one is near the last one, as in most programs."""
        touches = []
        box = 0
        for _ in range(count):
            box = (box + self.below(3)) % size if self.below(2) else self.below(size)
            touches.append((self.one_of(("read", "write")), box))
        return touches
