"""The machine: how the rows of a program are done, with the boxes at hand."""

from nearlines.boxes import checked_boxes
from nearlines.rows import checked
from nearlines.whole import ROUND


class Watched:
    """Boxes at hand, and all touches of them in order."""

    def __init__(self, boxes):
        self.boxes = boxes
        self.touches = []

    def look(self, box):
        """Read a box and give its number."""
        self.touches.append(("read", box))
        return self.boxes[box]

    def put(self, box, number):
        """Write a number into a box."""
        self.touches.append(("write", box))
        self.boxes[box] = number


def run(rows, boxes, steps):
    """Give the numbers told, the end, the boxes behind it and all touches of a run."""
    numbers = checked_boxes(boxes)
    program = checked(rows, len(numbers))
    watched = Watched(numbers)
    told, end = walk(program, watched, len(numbers), steps)
    return told, end, watched.boxes, watched.touches


def walk(program, memory, size, steps):
    """Do at most so many rows of a program that fits; give the numbers told and the end.

    The memory has size boxes, read by its look(box) and written by its put(box, number).
    """
    told = []
    place = 0
    done = 0
    while place < len(program) and done < steps:
        row = program[place]
        _act(row, memory, size, told)
        place = _next_place(row, place, memory)
        done += 1
    # Behind all rows the run is over, even if no step is left.
    if place < len(program):
        return told, "steps"
    return told, "over"


def _act(row, memory, size, told):
    """Do to the boxes, or tell, what a row says; the order of looks and puts is that of its touches."""
    match row:
        case ("set", box, number):
            memory.put(box, number)
        case ("copy", box, other):
            memory.put(box, memory.look(other))
        case ("add", box, one, other):
            first = memory.look(one)
            memory.put(box, (first + memory.look(other)) % ROUND)
        case ("sub", box, one, other):
            first = memory.look(one)
            memory.put(box, (first - memory.look(other)) % ROUND)
        case ("fetch", box, at):
            pointed = memory.look(at) % size
            memory.put(box, memory.look(pointed))
        case ("store", at, box):
            pointed = memory.look(at) % size
            memory.put(pointed, memory.look(box))
        case ("tell", box):
            told.append(memory.look(box))


def _next_place(row, place, memory):
    """Give the place at which the run goes on behind a row."""
    match row:
        case ("less", one, other, goal):
            first = memory.look(one)
            if first < memory.look(other):
                return goal
        case ("jump", goal):
            return goal
    return place + 1
