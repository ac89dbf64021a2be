"""The errors by which the program refuses what it is handed."""


class LineError(ValueError):
    """Any refusal."""


class BadRow(LineError):
    """A row that does not fit, a program that is too long, or a text that writes no row."""


class BadBoxes(LineError):
    """Boxes that are none, too many, or hold something else than numbers of a box."""


class BadShape(LineError):
    """A room, a width or a rule that is none."""


class NoBox(LineError):
    """What is no whole number of a box."""


class BadPlan(LineError):
    """A plan by which the lines cannot go."""
