import copy
import unittest

from nearlines.errors import BadBoxes, BadRow, BadShape
from nearlines.machine import run
from nearlines.running import run_near
from tests.plain import PlainNear
from tests.samples import HUGE, RULES, Draw, deep, no_numbers

BAD_BOXES = ([], [0] * 201, [-1], [1000000], [0, True], [None])
BAD_ROWS = ([("tell", 5)], [None], [("tell", 0)] * 201, [("jump", 2)], [["tell", 0]])
BAD_SHAPES = (
    (0, 1, "least"), (201, 1, "least"), (1, 0, "first"), (1, 201, "first"), (1, 1, "last"), (True, 1, "least"),
    (1, True, "least"), (None, 1, "least"), (1, "1", "least"), (1, 1, None), (HUGE, HUGE, HUGE), ([], [], []),
)


def counted(rows, boxes, steps, room, width, rule):
    """The counts of point 8 and 9, told plainly, over the touches of the run without near lines."""
    touches = run(rows, boxes, steps)[3]
    plain = PlainNear(boxes, room, width, rule)
    for word, box in touches:
        if word == "read":
            plain.look(box)
        else:
            # What is written where is left to the runs: here only lines are counted.
            plain.put(box, 0)
    plain.settle()
    return plain.found, plain.missed, plain.back


class Runs(unittest.TestCase):
    def runs(self, rows, boxes, steps, shape, told, end, behind, counts):
        answer = run_near(rows, boxes, steps, *shape)
        self.assertEqual(answer, (told, end, behind, counts), (rows, boxes, steps, shape))

    def test_told_outright(self):
        rows = [("add", 0, 0, 1), ("tell", 0), ("less", 0, 2, 0)]
        # Touched are lines 0 1 0, 0, 0 2 three times over.
        self.runs(rows, [0, 2, 5], 99, (1, 1, "least"), [2, 4, 6], "over", [6, 2, 5], (6, 12, 3))
        self.runs(rows, [0, 2, 5], 99, (2, 1, "least"), [2, 4, 6], "over", [6, 2, 5], (11, 7, 1))
        self.runs(rows, [0, 2, 5], 99, (3, 1, "least"), [2, 4, 6], "over", [6, 2, 5], (15, 3, 1))
        self.runs(rows, [0, 2, 5], 99, (1, 3, "least"), [2, 4, 6], "over", [6, 2, 5], (17, 1, 1))

    def test_told_outright_by_the_rule_first(self):
        rows = [("tell", 0), ("tell", 1), ("set", 0, 9), ("tell", 2), ("tell", 0)]
        # By "least" line 1 goes for line 2, by "first" line 0 does, and comes again.
        self.runs(rows, [4, 5, 6], 99, (2, 1, "least"), [4, 5, 6, 9], "over", [9, 5, 6], (2, 3, 1))
        self.runs(rows, [4, 5, 6], 99, (2, 1, "first"), [4, 5, 6, 9], "over", [9, 5, 6], (1, 4, 1))

    def test_settling_is_included(self):
        self.runs([("set", 0, 9)], [4], 9, (1, 1, "least"), [], "over", [9], (0, 1, 1))
        rows = [("set", 0, 9), ("set", 1, 8), ("set", 2, 7)]
        for rule in RULES:
            self.runs(rows, [4, 5, 6], 9, (1, 1, rule), [], "over", [9, 8, 7], (0, 3, 3))
            self.runs(rows, [4, 5, 6], 9, (3, 1, rule), [], "over", [9, 8, 7], (0, 3, 3))
            self.runs(rows, [4, 5, 6], 9, (1, 2, rule), [], "over", [9, 8, 7], (1, 2, 2))
            self.runs(rows, [4, 5, 6], 9, (1, 200, rule), [], "over", [9, 8, 7], (2, 1, 1))

    def test_no_rows_and_no_steps_and_no_touches(self):
        for rule in RULES:
            for room in (1, 200):
                for width in (1, 200):
                    shape = (room, width, rule)
                    self.runs([], [4, 5], 9, shape, [], "over", [4, 5], (0, 0, 0))
                    self.runs([], [4, 5], 0, shape, [], "over", [4, 5], (0, 0, 0))
                    self.runs([("set", 0, 9)], [4, 5], 0, shape, [], "steps", [4, 5], (0, 0, 0))
                    self.runs([("jump", 1)], [4, 5], 1, shape, [], "over", [4, 5], (0, 0, 0))
                    self.runs([("jump", 0)], [4, 5], 7, shape, [], "steps", [4, 5], (0, 0, 0))

    def test_it_ends_with_steps_and_is_settled(self):
        rows = [("add", 0, 0, 1), ("jump", 0)]
        self.runs(rows, [0, 1], 20001, (2, 1, "least"), [], "steps", [10001, 1], (30001, 2, 1))
        self.runs(rows, [0, 1], 21, (1, 1, "first"), [], "steps", [11, 1], (10, 23, 11))

    def test_each_word_touches_in_its_order(self):
        # With room for one line of one box each change from box to box is a miss.
        for row, missed in (
            (("set", 2, 9), 1), (("copy", 2, 0), 2), (("copy", 1, 1), 1), (("add", 0, 1, 2), 3), (("add", 0, 1, 0), 2),
            (("sub", 2, 2, 1), 3), (("sub", 1, 2, 1), 2), (("fetch", 2, 0), 3), (("fetch", 1, 0), 2),
            (("store", 0, 2), 3), (("store", 0, 1), 2), (("less", 0, 2, 1), 2), (("less", 1, 1, 1), 1),
            (("jump", 1), 0), (("tell", 1), 1),
        ):
            touches = run([row], [1, 5, 6], 1)[3]
            counts = run_near([row], [1, 5, 6], 1, 1, 1, "least")[3]
            self.assertEqual(counts[:2], (len(touches) - missed, missed), row)

    def test_two_hundred_rows_and_boxes(self):
        rows = [("set", box, box) for box in range(200)]
        shape = (3, 7, "first")
        self.runs(rows, [7] * 200, 200, shape, [], "over", list(range(200)), (200 - 29, 29, 29))

    def test_the_kinds_of_the_answers(self):
        answer = run_near([("tell", 0), ("set", 0, 1)], [4], 9, 1, 1, "least")
        self.assertIs(type(answer), tuple)
        self.assertEqual([type(part) for part in answer], [list, str, list, tuple])
        self.assertEqual([type(count) for count in answer[3]], [int, int, int])


class Drawn(unittest.TestCase):
    def like_run(self, rows, boxes, steps, room, width, rule):
        told, end, behind, _ = run(rows, boxes, steps)
        counts = counted(rows, boxes, steps, room, width, rule)
        answer = run_near(rows, boxes, steps, room, width, rule)
        self.assertEqual(answer, (told, end, behind, counts), (rows, boxes, steps, room, width, rule))
        return end

    def test_drawn_programs_of_a_few_rows(self):
        draw = Draw(11)
        ends = set()
        for _ in range(400):
            size = 1 + draw.below(12)
            rows = draw.program(size, draw.below(20))
            boxes = draw.boxes(size)
            for rule in RULES:
                room = draw.one_of((1, 2, 3, 5, 200))
                width = draw.one_of((1, 2, 3, 5, 200))
                ends.add(self.like_run(rows, boxes, draw.below(120), room, width, rule))
        self.assertEqual(ends, {"over", "steps"})

    def test_drawn_programs_by_each_small_shape(self):
        draw = Draw(12)
        for size in (1, 2, 5, 7):
            rows = draw.program(size, 12)
            boxes = draw.boxes(size)
            for room in range(1, 9):
                for width in range(1, 9):
                    for rule in RULES:
                        self.like_run(rows, boxes, 60, room, width, rule)

    def test_drawn_programs_of_the_most_rows_and_boxes(self):
        draw = Draw(13)
        for _ in range(4):
            rows = draw.program(200, 200)
            boxes = draw.boxes(200)
            for room, width in ((1, 1), (1, 200), (200, 1), (200, 200), (4, 8), (9, 7), (199, 199)):
                for rule in RULES:
                    self.like_run(rows, boxes, 300, room, width, rule)


class Refusals(unittest.TestCase):
    def refused(self, error, rows, boxes, shape):
        before = copy.copy(rows), copy.copy(boxes)
        with self.assertRaises(error):
            run_near(rows, boxes, 9, *shape)
        self.assertEqual((rows, boxes), before)

    def test_each(self):
        good = (1, 1, "least")
        for boxes in BAD_BOXES:
            self.refused(BadBoxes, [], boxes, good)
        for rows in BAD_ROWS:
            self.refused(BadRow, rows, [0], good)
        for shape in BAD_SHAPES:
            self.refused(BadShape, [("tell", 0)], [0], shape)

    def test_boxes_then_program_then_room_and_width_and_rule(self):
        for rows in BAD_ROWS:
            for shape in BAD_SHAPES:
                self.refused(BadRow, rows, [0], shape)
                for boxes in BAD_BOXES:
                    self.refused(BadBoxes, rows, boxes, shape)
        for boxes in BAD_BOXES:
            for shape in BAD_SHAPES:
                self.refused(BadBoxes, [("tell", 0)], boxes, shape)
            for rows in BAD_ROWS:
                self.refused(BadBoxes, rows, boxes, (1, 1, "least"))

    def test_refused_though_nothing_would_be_done(self):
        for boxes, rows, shape, error in (
            ([True], [], (1, 1, "least"), BadBoxes), ([0], [("tell", 1)], (1, 1, "least"), BadRow),
            ([0], [], (0, 1, "least"), BadShape), ([0], [], (1, 1, "none"), BadShape),
        ):
            with self.assertRaises(error):
                run_near(rows, boxes, 0, *shape)

    def test_anything_at_all_for_room_and_width_and_rule(self):
        for thing in no_numbers() + [deep(), HUGE, -HUGE, 0, -1, 201]:
            self.refused(BadShape, [], [0], (thing, 1, "least"))
            self.refused(BadShape, [], [0], (1, thing, "least"))
            self.refused(BadShape, [], [0], (1, 1, thing))

    def test_edges_of_room_and_width(self):
        for room in (1, 200):
            for width in (1, 200):
                for rule in RULES:
                    answer = run_near([("tell", 0)], [4], 9, room, width, rule)
                    self.assertEqual(answer, ([4], "over", [4], (0, 1, 0)))


class Apart(unittest.TestCase):
    rows = [("tell", 0), ("set", 0, 9), ("store", 0, 1), ("less", 1, 0, 5), ("tell", 1)]

    def test_what_is_handed_in_is_unchanged(self):
        for rule in RULES:
            rows = copy.deepcopy(self.rows)
            boxes = [4, 5, 6]
            behind = run_near(rows, boxes, 9, 1, 1, rule)[2]
            self.assertNotEqual(behind, boxes)
            self.assertEqual(rows, self.rows)
            self.assertEqual(boxes, [4, 5, 6])

    def test_changing_what_was_handed_in_changes_no_answer(self):
        rows = list(self.rows)
        boxes = [4, 5, 6]
        answer = run_near(rows, boxes, 9, 1, 1, "least")
        before = copy.deepcopy(answer)
        rows.clear()
        boxes.clear()
        self.assertEqual(answer, before)

    def test_changing_the_answers_changes_nothing_else(self):
        rows = list(self.rows)
        boxes = [4, 5, 6]
        first = run_near(rows, boxes, 9, 1, 1, "least")
        second = run_near(rows, boxes, 9, 1, 1, "least")
        before = copy.deepcopy(second)
        first[0].append(None)
        first[2].clear()
        self.assertEqual(second, before)
        self.assertEqual(run_near(rows, boxes, 9, 1, 1, "least"), before)
        self.assertEqual((rows, boxes), (self.rows, [4, 5, 6]))

    def test_the_boxes_of_a_run_that_touches_none_are_a_new_list(self):
        boxes = [4, 5, 6]
        behind = run_near([], boxes, 9, 1, 1, "least")[2]
        self.assertEqual(behind, boxes)
        self.assertIsNot(behind, boxes)


if __name__ == "__main__":
    unittest.main()
