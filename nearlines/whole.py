"""What counts as a whole number, and how far numbers and lists may go."""

ROUND = 1000000
MOST = 200


def is_whole(thing, low, high):
    """Tell whether anything at all is a whole number from low to high."""
    return is_any_whole(thing) and low <= thing <= high


def is_any_whole(thing):
    """Tell whether anything at all is a whole number."""
    # Python counts True and False among the integers, the document does not.
    return isinstance(thing, int) and not isinstance(thing, bool)
