import copy
import unittest

from nearlines.errors import BadBoxes, BadRow
from nearlines.machine import run
from tests.samples import HUGE, deep, no_numbers


def read(box):
    return ("read", box)


def write(box):
    return ("write", box)


class Runs(unittest.TestCase):
    def runs(self, rows, boxes, steps, told, end, behind, touches):
        self.assertEqual(run(rows, boxes, steps), (told, end, behind, touches), (rows, boxes, steps))

    def once(self, row, boxes, behind, touches, told=()):
        """A program of this one row, which goes on behind itself."""
        self.runs([row], boxes, 9, list(told), "over", behind, touches)


class Words(Runs):
    def test_set(self):
        self.once(("set", 1, 7), [4, 5, 6], [4, 7, 6], [write(1)])
        self.once(("set", 0, 0), [4, 5, 6], [0, 5, 6], [write(0)])
        self.once(("set", 2, 999999), [4, 5, 6], [4, 5, 999999], [write(2)])
        self.once(("set", 0, 4), [4], [4], [write(0)])

    def test_copy(self):
        self.once(("copy", 0, 2), [4, 5, 6], [6, 5, 6], [read(2), write(0)])
        self.once(("copy", 2, 0), [4, 5, 6], [4, 5, 4], [read(0), write(2)])
        self.once(("copy", 1, 1), [4, 5, 6], [4, 5, 6], [read(1), write(1)])

    def test_add(self):
        self.once(("add", 0, 1, 2), [4, 5, 6], [11, 5, 6], [read(1), read(2), write(0)])
        self.once(("add", 0, 2, 1), [4, 5, 6], [11, 5, 6], [read(2), read(1), write(0)])
        self.once(("add", 1, 1, 1), [4, 5, 6], [4, 10, 6], [read(1), read(1), write(1)])
        self.once(("add", 2, 2, 0), [4, 5, 6], [4, 5, 10], [read(2), read(0), write(2)])

    def test_add_by_the_rest(self):
        touches = [read(1), read(2), write(0)]
        self.once(("add", 0, 1, 2), [9, 999998, 1], [999999, 999998, 1], touches)
        self.once(("add", 0, 1, 2), [9, 999999, 1], [0, 999999, 1], touches)
        self.once(("add", 0, 1, 2), [9, 999999, 2], [1, 999999, 2], touches)
        self.once(("add", 0, 1, 2), [9, 999999, 999999], [999998, 999999, 999999], touches)
        self.once(("add", 0, 1, 2), [9, 0, 0], [0, 0, 0], touches)

    def test_sub(self):
        self.once(("sub", 0, 1, 2), [4, 9, 3], [6, 9, 3], [read(1), read(2), write(0)])
        self.once(("sub", 0, 2, 1), [4, 3, 9], [6, 3, 9], [read(2), read(1), write(0)])
        self.once(("sub", 1, 1, 0), [4, 9, 3], [4, 5, 3], [read(1), read(0), write(1)])
        self.once(("sub", 2, 2, 2), [4, 9, 3], [4, 9, 0], [read(2), read(2), write(2)])

    def test_sub_by_the_rest(self):
        touches = [read(1), read(2), write(0)]
        self.once(("sub", 0, 1, 2), [0, 3, 5], [999998, 3, 5], touches)
        self.once(("sub", 0, 1, 2), [7, 5, 5], [0, 5, 5], touches)
        self.once(("sub", 0, 1, 2), [7, 0, 1], [999999, 0, 1], touches)
        self.once(("sub", 0, 1, 2), [7, 0, 999999], [1, 0, 999999], touches)
        self.once(("sub", 0, 1, 2), [7, 999999, 0], [999999, 999999, 0], touches)

    def test_fetch(self):
        self.once(("fetch", 0, 1), [9, 2, 7], [7, 2, 7], [read(1), read(2), write(0)])
        self.once(("fetch", 2, 0), [1, 8, 7], [1, 8, 8], [read(0), read(1), write(2)])
        # The pointed box is the box itself, or the one that points, or all are one.
        self.once(("fetch", 0, 1), [9, 0, 7], [9, 0, 7], [read(1), read(0), write(0)])
        self.once(("fetch", 0, 1), [9, 1, 7], [1, 1, 7], [read(1), read(1), write(0)])
        self.once(("fetch", 1, 1), [9, 2, 7], [9, 7, 7], [read(1), read(2), write(1)])
        self.once(("fetch", 1, 1), [9, 1, 7], [9, 1, 7], [read(1), read(1), write(1)])

    def test_store(self):
        self.once(("store", 1, 0), [9, 2, 7], [9, 2, 9], [read(1), read(0), write(2)])
        self.once(("store", 0, 2), [1, 8, 7], [1, 7, 7], [read(0), read(2), write(1)])
        # The pointed box is the box itself, or the one that points, or all are one.
        self.once(("store", 1, 0), [9, 0, 7], [9, 0, 7], [read(1), read(0), write(0)])
        self.once(("store", 1, 0), [9, 1, 7], [9, 9, 7], [read(1), read(0), write(1)])
        self.once(("store", 1, 1), [9, 2, 7], [9, 2, 2], [read(1), read(1), write(2)])
        self.once(("store", 1, 1), [9, 1, 7], [9, 1, 7], [read(1), read(1), write(1)])

    def test_the_pointed_box_by_the_rest_of_how_many_boxes_there_are(self):
        for number, box in ((0, 0), (1, 1), (2, 2), (3, 0), (4, 1), (5, 2), (999999, 0), (999998, 2)):
            before = [10, number, 12]
            after = list(before)
            after[0] = before[box]
            self.once(("fetch", 0, 1), before, after, [read(1), read(box), write(0)])
            after = list(before)
            after[box] = 12
            self.once(("store", 1, 2), before, after, [read(1), read(2), write(box)])

    def test_the_pointed_box_of_one_box_and_of_two_hundred(self):
        self.once(("fetch", 0, 0), [999999], [999999], [read(0), read(0), write(0)])
        self.once(("store", 0, 0), [5], [5], [read(0), read(0), write(0)])
        many = list(range(1000, 1200))
        many[0] = 399
        self.once(("fetch", 1, 0), many, [399, 1199] + many[2:], [read(0), read(199), write(1)])
        self.once(("store", 0, 1), many, many[:199] + [1001], [read(0), read(1), write(199)])
        many[0] = 200
        self.once(("fetch", 1, 0), many, [200, 200] + many[2:], [read(0), read(0), write(1)])

    def test_less(self):
        # What it tells behind it shows where it went on.
        rows = [("less", 0, 1, 2), ("tell", 0), ("tell", 1)]
        both = [read(0), read(1)]
        self.runs(rows, [3, 4], 9, [4], "over", [3, 4], both + [read(1)])
        self.runs(rows, [4, 4], 9, [4, 4], "over", [4, 4], both + [read(0), read(1)])
        self.runs(rows, [5, 4], 9, [5, 4], "over", [5, 4], both + [read(0), read(1)])
        self.runs(rows, [0, 999999], 9, [999999], "over", [0, 999999], both + [read(1)])
        self.runs(rows, [999999, 0], 9, [999999, 0], "over", [999999, 0], both + [read(0), read(1)])

    def test_less_of_a_box_and_itself_goes_on_behind(self):
        self.runs([("less", 1, 1, 0)], [3, 4], 9, [], "over", [3, 4], [read(1), read(1)])

    def test_less_reads_the_one_before_the_other(self):
        self.runs([("less", 2, 0, 1)], [3, 4, 5], 9, [], "over", [3, 4, 5], [read(2), read(0)])
        self.runs([("less", 0, 2, 1)], [3, 4, 5], 9, [], "over", [3, 4, 5], [read(0), read(2)])

    def test_jump(self):
        self.once(("jump", 1), [4, 5], [4, 5], [])
        self.runs([("jump", 2), ("tell", 0), ("tell", 1)], [4, 5], 9, [5], "over", [4, 5], [read(1)])

    def test_tell(self):
        self.once(("tell", 1), [4, 5, 6], [4, 5, 6], [read(1)], [5])
        self.once(("tell", 0), [0], [0], [read(0)], [0])
        self.runs(
            [("tell", 1), ("tell", 0), ("tell", 1)], [4, 5], 9, [5, 4, 5], "over", [4, 5], [read(1), read(0), read(1)]
        )

    def test_a_row_finds_what_the_one_before_it_left(self):
        rows = [("set", 0, 2), ("add", 1, 0, 0), ("store", 0, 1), ("fetch", 3, 0), ("sub", 0, 3, 1), ("tell", 0)]
        touches = [write(0), read(0), read(0), write(1), read(0), read(1), write(2), read(0), read(2), write(3)]
        touches += [read(3), read(1), write(0), read(0)]
        self.runs(rows, [9, 9, 9, 9], 9, [0], "over", [0, 4, 4, 4], touches)


class Places(Runs):
    def test_a_jump_to_each_place(self):
        rows = [("jump", 0), ("tell", 1), ("tell", 2), ("tell", 3)]
        for place in range(1, 5):
            rows[0] = ("jump", place)
            numbers = list(range(place, 4))
            self.runs(rows, [0, 1, 2, 3], 99, numbers, "over", [0, 1, 2, 3], [read(box) for box in numbers])

    def test_less_to_each_place(self):
        rows = [("less", 0, 1, 0), ("tell", 1), ("tell", 2), ("tell", 3)]
        for place in range(1, 5):
            rows[0] = ("less", 0, 1, place)
            numbers = list(range(place, 4))
            touches = [read(0), read(1)] + [read(box) for box in numbers]
            self.runs(rows, [0, 1, 2, 3], 99, numbers, "over", [0, 1, 2, 3], touches)

    def test_back_to_an_earlier_row(self):
        rows = [("add", 0, 0, 1), ("tell", 0), ("less", 0, 2, 0), ("tell", 2)]
        turn = [read(0), read(1), write(0), read(0), read(0), read(2)]
        self.runs(rows, [0, 2, 5], 99, [2, 4, 6, 5], "over", [6, 2, 5], turn * 3 + [read(2)])

    def test_back_by_a_jump(self):
        rows = [("less", 1, 0, 4), ("add", 0, 0, 2), ("tell", 0), ("jump", 0)]
        turn = [read(1), read(0), read(0), read(2), write(0), read(0)]
        self.runs(rows, [0, 1, 1], 99, [1, 2], "over", [2, 1, 1], turn * 2 + [read(1), read(0)])

    def test_a_row_that_goes_on_at_itself(self):
        self.runs([("jump", 0)], [4], 1000, [], "steps", [4], [])
        self.runs([("less", 0, 1, 0)], [4, 5], 3, [], "steps", [4, 5], [read(0), read(1)] * 3)

    def test_a_run_begins_at_row_nought(self):
        self.runs([("tell", 0), ("tell", 1)], [4, 5], 1, [4], "steps", [4, 5], [read(0)])


class Ends(Runs):
    def test_no_rows(self):
        for steps in (0, 1, 1000):
            self.runs([], [4, 5], steps, [], "over", [4, 5], [])

    def test_no_steps(self):
        self.runs([("set", 0, 9), ("tell", 0)], [4], 0, [], "steps", [4], [])
        self.runs([("jump", 1)], [4], 0, [], "steps", [4], [])

    def test_as_many_steps_as_rows_and_one_less_and_one_more(self):
        rows = [("set", 0, 9), ("tell", 0), ("set", 0, 8)]
        self.runs(rows, [4], 1, [], "steps", [9], [write(0)])
        self.runs(rows, [4], 2, [9], "steps", [9], [write(0), read(0)])
        self.runs(rows, [4], 3, [9], "over", [8], [write(0), read(0), write(0)])
        self.runs(rows, [4], 4, [9], "over", [8], [write(0), read(0), write(0)])

    def test_behind_all_rows_with_the_last_step(self):
        self.runs([("jump", 3), ("tell", 0), ("tell", 0)], [4], 1, [], "over", [4], [])
        self.runs([("less", 0, 1, 2), ("tell", 0)], [4, 5], 1, [], "over", [4, 5], [read(0), read(1)])

    def test_each_row_is_one_step_though_it_touches_no_box(self):
        rows = [("jump", 1), ("jump", 2), ("jump", 3)]
        self.runs(rows, [4], 2, [], "steps", [4], [])
        self.runs(rows, [4], 3, [], "over", [4], [])

    def test_many_steps(self):
        rows = [("add", 0, 0, 1), ("jump", 0)]
        turn = [read(0), read(1), write(0)]
        self.runs(rows, [0, 1], 20001, [], "steps", [10001, 1], turn * 10001)
        self.runs([("tell", 0)], [4], HUGE, [4], "over", [4], [read(0)])

    def test_two_hundred_rows_and_boxes(self):
        rows = [("set", box, box) for box in range(200)]
        self.runs(rows, [7] * 200, 200, [], "over", list(range(200)), [write(box) for box in range(200)])

    def test_the_kinds_of_the_answers(self):
        answer = run([("tell", 0), ("set", 0, 1)], [4], 9)
        self.assertIs(type(answer), tuple)
        self.assertEqual([type(part) for part in answer], [list, str, list, list])
        self.assertEqual([type(touch) for touch in answer[3]], [tuple, tuple])


class Refusals(unittest.TestCase):
    def refused(self, error, rows, boxes):
        with self.assertRaises(error):
            run(rows, boxes, 9)

    def test_no_boxes_and_too_many(self):
        self.refused(BadBoxes, [], [])
        self.refused(BadBoxes, [], [0] * 201)
        self.refused(BadBoxes, [], [0] * 1000)
        self.assertEqual(run([], [0], 9), ([], "over", [0], []))
        self.assertEqual(run([], [0] * 200, 9), ([], "over", [0] * 200, []))

    def test_the_edges_of_what_a_box_has(self):
        self.assertEqual(run([], [0, 999999], 9), ([], "over", [0, 999999], []))
        for number in (-1, 1000000, HUGE, -HUGE):
            self.refused(BadBoxes, [], [number])
            self.refused(BadBoxes, [], [0, number])
            self.refused(BadBoxes, [], [number, 0])
            self.refused(BadBoxes, [], [0] * 199 + [number])

    def test_no_whole_number_in_a_box(self):
        for thing in no_numbers() + [deep()]:
            self.refused(BadBoxes, [], [thing])
            self.refused(BadBoxes, [], [0, thing, 0])

    def test_bad_boxes_though_no_row_touches_them(self):
        self.refused(BadBoxes, [("tell", 0)], [0, True])

    def test_rows_that_do_not_fit(self):
        for row in (
            ("tell", 2), ("tell", -1), ("set", 0, 1000000), ("jump", 2), ("less", 0, 1, 2), ("tell",), ("tell", 0, 0),
            ("halt",), ("tell", True), ("tell", None), ["tell", 0], "tell 0", None, (), deep(), ("tell", HUGE),
        ):
            self.refused(BadRow, [row], [0, 0])

    def test_a_row_that_does_not_fit_and_is_never_done(self):
        self.refused(BadRow, [("jump", 2), ("tell", 2)], [0, 0])
        with self.assertRaises(BadRow):
            run([("tell", 2)], [0, 0], 0)

    def test_too_many_rows(self):
        self.refused(BadRow, [("tell", 0)] * 201, [0])
        self.assertEqual(run([("jump", 200)] * 200, [0], 1), ([], "over", [0], []))

    def test_the_boxes_are_refused_ahead_of_the_program(self):
        for rows in ([("tell", 5)], [None], [("tell", 0)] * 201):
            for boxes in ([], [0] * 201, [-1], [1000000], [True], [None]):
                self.refused(BadBoxes, rows, boxes)
            self.refused(BadRow, rows, [0])


class Apart(unittest.TestCase):
    rows = [("tell", 0), ("set", 0, 9), ("store", 0, 1), ("less", 1, 0, 5), ("tell", 1)]

    def test_what_is_handed_in_is_unchanged(self):
        rows = copy.deepcopy(self.rows)
        boxes = [4, 5, 6]
        run(rows, boxes, 9)
        self.assertEqual(rows, self.rows)
        self.assertEqual(boxes, [4, 5, 6])

    def test_what_is_refused_is_unchanged(self):
        rows = [("set", 0, 9), ("tell", 3)]
        boxes = [4, 5, 6]
        with self.assertRaises(BadRow):
            run(rows, boxes, 9)
        self.assertEqual(rows, [("set", 0, 9), ("tell", 3)])
        self.assertEqual(boxes, [4, 5, 6])

    def test_changing_what_was_handed_in_changes_no_answer(self):
        rows = list(self.rows)
        boxes = [4, 5, 6]
        answer = run(rows, boxes, 9)
        before = copy.deepcopy(answer)
        rows.clear()
        boxes.clear()
        self.assertEqual(answer, before)

    def test_changing_the_answers_changes_nothing_else(self):
        rows = list(self.rows)
        boxes = [4, 5, 6]
        first = run(rows, boxes, 9)
        second = run(rows, boxes, 9)
        before = copy.deepcopy(second)
        for at in (0, 2, 3):
            first[at].append(None)
        self.assertEqual(second, before)
        self.assertEqual(run(rows, boxes, 9), before)
        self.assertEqual(rows, self.rows)
        self.assertEqual(boxes, [4, 5, 6])

    def test_the_boxes_behind_a_run_that_touches_none_are_a_new_list(self):
        boxes = [4, 5, 6]
        behind = run([], boxes, 9)[2]
        self.assertEqual(behind, boxes)
        self.assertIsNot(behind, boxes)


if __name__ == "__main__":
    unittest.main()
