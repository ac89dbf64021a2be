"""Which line a box lies in."""


def line_of(box, width):
    """Give the number of the line in which a box lies."""
    return box // width


def lines_of(touches, width):
    """Give the numbers of the lines that a row of touches touches, in their order."""
    return [line_of(box, width) for _, box in touches]
