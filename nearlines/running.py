"""The run of a program by way of near lines."""

from nearlines.boxes import checked_boxes
from nearlines.machine import walk
from nearlines.near import Near
from nearlines.rows import checked


def run_near(rows, boxes, steps, room, width, rule):
    """Give the numbers told, the end, the boxes far behind settling, and the counts of a run by near lines.

    The counts are how many touches were found, how many were missed, and how often a line was written back.
    """
    # Near looks at the boxes again; here they come first, because bad boxes are refused ahead of a bad program.
    numbers = checked_boxes(boxes)
    program = checked(rows, len(numbers))
    near = Near(numbers, room, width, rule)
    told, end = walk(program, near, len(numbers), steps)
    near.settle()
    return told, end, near.far, (near.found, near.missed, near.back)
