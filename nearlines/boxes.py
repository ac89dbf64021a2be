"""The boxes that may be handed in."""

from nearlines.errors import BadBoxes
from nearlines.whole import MOST, ROUND, is_whole


def checked_boxes(boxes):
    """Give a new list of the boxes, or refuse them with BadBoxes."""
    if not 1 <= len(boxes) <= MOST:
        raise BadBoxes(f"there are 1 to {MOST} boxes, not {len(boxes)}")
    for box, number in enumerate(boxes):
        # The message leaves out what is in the box: that may be anything, and not all can be shown.
        if not is_whole(number, 0, ROUND - 1):
            raise BadBoxes(f"box {box} has no whole number from 0 to {ROUND - 1}")
    return list(boxes)
