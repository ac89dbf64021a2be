"""The lines near the machine, by which it reads and writes the boxes that lie far."""

from nearlines.boxes import checked_boxes
from nearlines.errors import BadShape, NoBox
from nearlines.lines import line_of
from nearlines.whole import MOST, is_whole

LEAST = "least"
FIRST = "first"


class Near:
    """Boxes that lie far, and room near the machine for a few lines of them."""

    def __init__(self, boxes, room, width, rule):
        self.far = checked_boxes(boxes)
        _check_shape(room, width, rule)
        self.found = 0
        self.missed = 0
        self.back = 0
        self._room = room
        self._width = width
        self._rule = rule
        # Each line near with its numbers. A dict keeps its order: that line stands first which would go next.
        self._lines = {}
        # The lines near that were written since they came or were last written back.
        self._written = {}

    def look(self, box):
        """Read a box and give its number."""
        line = self._touched_line(box)
        return self._lines[line][box % self._width]

    def put(self, box, number):
        """Write a number into a box, near alone."""
        line = self._touched_line(box)
        self._lines[line][box % self._width] = number
        self._written[line] = True

    def held(self):
        """Give the numbers of the lines near, that which would go next first."""
        return list(self._lines)

    def settle(self):
        """Write back all lines near that were written; they stay near."""
        for line in list(self._written):
            self._write_back(line)

    def _touched_line(self, box):
        """Count a touch of a box, see that its line is near, and give the number of the line."""
        last = len(self.far) - 1
        if not is_whole(box, 0, last):
            # The message leaves out the box: it may be anything, and not all can be shown.
            raise NoBox(f"the boxes are those from 0 to {last}")
        line = line_of(box, self._width)
        if line in self._lines:
            self.found += 1
            self._find(line)
        else:
            self.missed += 1
            self._bring(line)
        return line

    def _find(self, line):
        """Note that a line near is touched."""
        # By the rule "first" a line keeps its place until it goes.
        if self._rule == LEAST:
            numbers = self._lines.pop(line)
            self._lines[line] = numbers

    def _bring(self, line):
        """Have a line come from far, and another one go if there is no more room."""
        if len(self._lines) == self._room:
            self._let_go(self.held()[0])
        start = line * self._width
        self._lines[line] = self.far[start:start + self._width]

    def _let_go(self, line):
        """Have a line near go."""
        if line in self._written:
            self._write_back(line)
        del self._lines[line]

    def _write_back(self, line):
        """Write the numbers of a line near back far."""
        numbers = self._lines[line]
        start = line * self._width
        # The last line may have fewer boxes than the width.
        self.far[start:start + len(numbers)] = numbers
        self.back += 1
        del self._written[line]


def _check_shape(room, width, rule):
    """Refuse with BadShape a room, a width or a rule that is none."""
    if not is_whole(room, 1, MOST):
        raise BadShape(f"the room is a whole number from 1 to {MOST}")
    if not is_whole(width, 1, MOST):
        raise BadShape(f"the width is a whole number from 1 to {MOST}")
    if not isinstance(rule, str) or rule not in (LEAST, FIRST):
        raise BadShape(f"the rule is {LEAST} or {FIRST}")
