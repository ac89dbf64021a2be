"""What counts as a whole number, and how far numbers and lists may go."""

ROUND = 1000000
MOST = 200


def is_whole(thing, low, high):
    """Tell whether anything at all is a whole number from low to high."""
    # Python counts True and False among the integers, the document does not.
    if not isinstance(thing, int) or isinstance(thing, bool):
        return False
    return low <= thing <= high
