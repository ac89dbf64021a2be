import copy
import unittest

from nearlines.errors import BadBoxes, BadShape, NoBox
from nearlines.near import Near
from tests.plain import PlainNear
from tests.samples import HUGE, RULES, Draw, deep, no_numbers


def counts(near):
    return near.found, near.missed, near.back


def state(near):
    """All that can be seen of near lines without touching them."""
    return list(near.far), counts(near), near.held()


def looked(near, boxes):
    """Looks at boxes one by one; gives the lines held behind each."""
    lines = []
    for box in boxes:
        near.look(box)
        lines.append(near.held())
    return lines


class Making(unittest.TestCase):
    def refused(self, error, boxes, room, width, rule):
        before = copy.copy(boxes)
        with self.assertRaises(error):
            Near(boxes, room, width, rule)
        self.assertEqual(boxes, before)

    def test_nothing_is_near_and_nothing_counted(self):
        for rule in RULES:
            near = Near([4, 5, 6], 2, 2, rule)
            self.assertEqual(state(near), ([4, 5, 6], (0, 0, 0), []))

    def test_each_object_has_its_values_when_it_is_made(self):
        values = vars(Near([4, 5, 6], 2, 2, "least"))
        for name, worth in (("far", [4, 5, 6]), ("found", 0), ("missed", 0), ("back", 0)):
            self.assertIn(name, values)
            self.assertEqual(values[name], worth)
            self.assertIs(type(values[name]), type(worth))

    def test_two_objects_share_nothing(self):
        boxes = [4, 5, 6]
        one = Near(boxes, 1, 1, "least")
        other = Near(boxes, 1, 1, "least")
        one.put(0, 9)
        one.settle()
        self.assertEqual(state(other), ([4, 5, 6], (0, 0, 0), []))
        self.assertEqual(other.look(0), 4)

    def test_edges_of_room_and_width(self):
        for rule in RULES:
            for room in (1, 2, 199, 200):
                for width in (1, 2, 199, 200):
                    self.assertEqual(state(Near([7], room, width, rule)), ([7], (0, 0, 0), []))

    def test_rooms_and_widths_that_are_none(self):
        for thing in no_numbers() + [deep(), 0, -1, 201, 1000, HUGE, -HUGE]:
            for rule in RULES:
                self.refused(BadShape, [4, 5], thing, 1, rule)
                self.refused(BadShape, [4, 5], 1, thing, rule)

    def test_rules_that_are_none(self):
        for thing in no_numbers() + [deep(), HUGE, 0, 1]:
            self.refused(BadShape, [4, 5], 1, 1, thing)
        for rule in ("Least", "FIRST", "least ", " first", "leas", "firsts", "last", "most", "none", "leastfirst", "e"):
            self.refused(BadShape, [4, 5], 1, 1, rule)
        for rule in (["least"], ("first",), {"least": 1}, {"first"}, b"least", "l\u0435ast", "\ud800"):
            self.refused(BadShape, [4, 5], 1, 1, rule)

    def test_boxes_that_are_none(self):
        for boxes in ([], [0] * 201, [-1], [1000000], [0, HUGE], [-HUGE, 0]):
            self.refused(BadBoxes, boxes, 1, 1, "least")
        for thing in no_numbers() + [deep()]:
            with self.assertRaises(BadBoxes):
                Near([0, thing, 0], 1, 1, "first")

    def test_edges_of_boxes(self):
        for boxes in ([0], [999999], [0, 999999], [0] * 200):
            self.assertEqual(Near(boxes, 1, 1, "least").far, boxes)

    def test_boxes_are_refused_ahead_of_room_and_width_and_rule(self):
        for boxes in ([], [0] * 201, [True], [1000000]):
            for shape in ((0, 1, "least"), (1, 201, "least"), (1, 1, "last"), (None, None, None), (True, 0, [])):
                self.refused(BadBoxes, boxes, *shape)
                self.refused(BadShape, [0], *shape)

    def test_the_list_handed_in_is_not_kept(self):
        boxes = [4, 5, 6]
        near = Near(boxes, 2, 2, "least")
        self.assertIsNot(near.far, boxes)
        boxes[0] = 9
        boxes.append(7)
        self.assertEqual(near.far, [4, 5, 6])
        self.assertEqual(near.look(0), 4)
        with self.assertRaises(NoBox):
            near.look(3)
        boxes.clear()
        self.assertEqual(near.look(2), 6)

    def test_the_list_handed_in_is_not_changed(self):
        boxes = [4, 5, 6]
        near = Near(boxes, 1, 1, "first")
        for box in range(3):
            near.put(box, 9)
        near.settle()
        self.assertEqual(near.far, [9, 9, 9])
        self.assertEqual(boxes, [4, 5, 6])


class Touches(unittest.TestCase):
    def test_a_read_tells_what_the_box_has(self):
        for rule in RULES:
            for width in (1, 2, 3, 200):
                near = Near([4, 5, 6], 1, width, rule)
                for box, number in ((0, 4), (2, 6), (1, 5), (1, 5), (0, 4)):
                    self.assertEqual(near.look(box), number)
                self.assertEqual(near.far, [4, 5, 6])

    def test_a_read_tells_a_number_and_a_write_none(self):
        near = Near([4, 5], 1, 1, "least")
        self.assertIs(type(near.look(0)), int)
        self.assertIsNone(near.put(0, 9))
        self.assertIsNone(near.put(1, 9))

    def test_missed_and_then_found(self):
        near = Near([4, 5, 6], 2, 1, "least")
        near.look(0)
        self.assertEqual(counts(near), (0, 1, 0))
        near.look(0)
        self.assertEqual(counts(near), (1, 1, 0))
        near.put(1, 9)
        self.assertEqual(counts(near), (1, 2, 0))
        near.put(1, 8)
        self.assertEqual(counts(near), (2, 2, 0))
        near.look(1)
        self.assertEqual(counts(near), (3, 2, 0))

    def test_all_boxes_of_a_line_come_for_a_read_and_for_a_write(self):
        for first in (0, 1, 2):
            for touch in (lambda near: near.look(first), lambda near: near.put(first, 9)):
                near = Near([4, 5, 6, 7], 1, 3, "least")
                touch(near)
                self.assertEqual(near.held(), [0])
                for other in (0, 1, 2):
                    if other != first:
                        self.assertEqual(near.look(other), 4 + other)
                self.assertEqual(counts(near), (2, 1, 0))

    def test_which_boxes_are_a_line(self):
        # Of eight boxes by width 3 the last line has two.
        near = Near(list(range(10, 18)), 200, 3, "first")
        for box, line in enumerate((0, 0, 0, 1, 1, 1, 2, 2)):
            self.assertEqual(near.look(box), 10 + box)
            self.assertEqual(near.held()[-1], line)
        self.assertEqual(counts(near), (5, 3, 0))

    def test_a_write_changes_the_number_near_alone(self):
        for rule in RULES:
            near = Near([4, 5, 6], 2, 2, rule)
            near.put(0, 9)
            near.put(2, 0)
            self.assertEqual(near.far, [4, 5, 6])
            self.assertEqual([near.look(0), near.look(1), near.look(2)], [9, 5, 0])
            near.put(0, 999999)
            self.assertEqual(near.look(0), 999999)
            self.assertEqual(near.far, [4, 5, 6])
            self.assertEqual(near.back, 0)

    def test_a_write_to_a_line_that_is_far(self):
        near = Near([4, 5, 6, 7], 1, 2, "least")
        near.put(3, 9)
        self.assertEqual(state(near), ([4, 5, 6, 7], (0, 1, 0), [1]))
        self.assertEqual(near.look(2), 6)
        near.look(0)
        self.assertEqual(near.far, [4, 5, 6, 9])

    def test_no_line_goes_while_there_is_room(self):
        for rule in RULES:
            near = Near([4, 5, 6, 7], 3, 1, rule)
            self.assertEqual(looked(near, [0, 1, 2]), [[0], [0, 1], [0, 1, 2]])
            self.assertEqual(looked(near, [3]), [[1, 2, 3]])

    def test_one_line_goes_for_each_that_comes(self):
        near = Near([0] * 9, 2, 1, "least")
        for box in range(9):
            near.look(box)
            self.assertEqual(len(near.held()), min(2, box + 1))


class Edges(unittest.TestCase):
    def test_one_box(self):
        for rule in RULES:
            for room in (1, 200):
                for width in (1, 200):
                    near = Near([4], room, width, rule)
                    self.assertEqual(near.look(0), 4)
                    near.put(0, 5)
                    self.assertEqual(near.look(0), 5)
                    self.assertEqual(state(near), ([4], (2, 1, 0), [0]))
                    near.settle()
                    self.assertEqual(state(near), ([5], (2, 1, 1), [0]))

    def test_room_of_one(self):
        for rule in RULES:
            near = Near([4, 5, 6], 1, 1, rule)
            near.put(0, 9)
            self.assertEqual(looked(near, [1, 2, 2, 0]), [[1], [2], [2], [0]])
            self.assertEqual(state(near), ([9, 5, 6], (1, 4, 1), [0]))

    def test_two_hundred_boxes_room_of_two_hundred(self):
        for rule in RULES:
            near = Near(list(range(200)), 200, 1, rule)
            for box in range(200):
                near.put(box, 999 - box)
            self.assertEqual(state(near), (list(range(200)), (0, 200, 0), list(range(200))))
            near.settle()
            self.assertEqual(state(near), ([999 - box for box in range(200)], (0, 200, 200), list(range(200))))

    def test_two_hundred_boxes_width_of_two_hundred(self):
        for rule in RULES:
            near = Near(list(range(200)), 1, 200, rule)
            for box in range(200):
                near.put(box, 999 - box)
            self.assertEqual(state(near), (list(range(200)), (199, 1, 0), [0]))
            near.settle()
            self.assertEqual(state(near), ([999 - box for box in range(200)], (199, 1, 1), [0]))

    def test_width_of_one_hundred_and_ninety_nine(self):
        near = Near([7] * 200, 1, 199, "least")
        near.put(198, 1)
        near.put(199, 2)
        near.look(0)
        self.assertEqual(state(near), ([7] * 198 + [1, 2], (0, 3, 2), [0]))

    def test_the_last_line_has_fewer_boxes(self):
        for rule in RULES:
            near = Near([4, 5, 6, 7, 8], 1, 3, rule)
            near.put(4, 9)
            near.put(3, 1)
            near.look(0)
            self.assertEqual(state(near), ([4, 5, 6, 1, 9], (1, 2, 1), [0]))
            for thing in (5, 6):
                with self.assertRaises(NoBox):
                    near.look(thing)

    def test_a_width_larger_than_the_boxes_are_many(self):
        near = Near([4, 5, 6], 1, 50, "first")
        for box in (2, 0, 1):
            near.put(box, 9)
        near.settle()
        self.assertEqual(state(near), ([9, 9, 9], (2, 1, 1), [0]))

    def test_a_room_larger_than_the_lines_are_many(self):
        near = Near([4, 5, 6], 4, 2, "first")
        looked(near, [0, 2, 1, 2, 0])
        near.put(2, 9)
        self.assertEqual(state(near), ([4, 5, 6], (4, 2, 0), [0, 1]))


class Rules(unittest.TestCase):
    def test_least_lets_go_whose_last_touch_is_the_longest_ago(self):
        near = Near([0] * 5, 3, 1, "least")
        lines = looked(near, [0, 1, 2, 0, 3, 2, 4])
        self.assertEqual(lines, [[0], [0, 1], [0, 1, 2], [1, 2, 0], [2, 0, 3], [0, 3, 2], [3, 2, 4]])

    def test_first_lets_go_what_came_first(self):
        near = Near([0] * 5, 3, 1, "first")
        lines = looked(near, [0, 1, 2, 0, 3, 2, 4])
        self.assertEqual(lines, [[0], [0, 1], [0, 1, 2], [0, 1, 2], [1, 2, 3], [1, 2, 3], [2, 3, 4]])

    def test_a_write_is_a_touch_like_a_read(self):
        near = Near([0] * 3, 2, 1, "least")
        near.look(0)
        near.look(1)
        near.put(0, 9)
        self.assertEqual(near.held(), [1, 0])
        near.put(2, 9)
        self.assertEqual(near.held(), [0, 2])
        near = Near([0] * 3, 2, 1, "first")
        near.look(0)
        near.look(1)
        near.put(0, 9)
        self.assertEqual(near.held(), [0, 1])
        near.put(2, 9)
        self.assertEqual(near.held(), [1, 2])

    def test_a_touch_of_any_box_of_a_line_is_one_of_the_line(self):
        near = Near([0] * 6, 2, 2, "least")
        self.assertEqual(looked(near, [0, 2, 1, 5]), [[0], [0, 1], [1, 0], [0, 2]])

    def test_a_line_that_came_again_came_then(self):
        near = Near([0] * 3, 2, 1, "first")
        self.assertEqual(looked(near, [0, 1, 2, 0, 1]), [[0], [0, 1], [1, 2], [2, 0], [0, 1]])

    def test_held_gives_a_new_list_each_time(self):
        for rule in RULES:
            near = Near([4, 5, 6], 2, 1, rule)
            self.assertIsNot(near.held(), near.held())
            near.held().append(2)
            self.assertEqual(near.held(), [])
            near.look(0)
            near.look(1)
            lines = near.held()
            self.assertIs(type(lines), list)
            self.assertEqual(lines, [0, 1])
            lines.reverse()
            lines.append(7)
            self.assertEqual(near.held(), [0, 1])
            near.look(2)
            self.assertEqual(near.held(), [1, 2])
            self.assertEqual(lines, [1, 0, 7])

    def test_held_and_settle_are_no_touches(self):
        near = Near([4, 5, 6], 2, 1, "least")
        near.put(0, 9)
        near.put(1, 9)
        near.look(0)
        for _ in range(3):
            near.held()
            near.settle()
        self.assertEqual(counts(near), (1, 2, 2))
        self.assertEqual(near.held(), [1, 0])


class Back(unittest.TestCase):
    def test_a_line_that_was_written_is_written_back_when_it_goes(self):
        for rule in RULES:
            near = Near([4, 5, 6, 7], 1, 2, rule)
            near.put(1, 9)
            near.look(0)
            self.assertEqual(state(near), ([4, 5, 6, 7], (1, 1, 0), [0]))
            near.look(2)
            self.assertEqual(state(near), ([4, 9, 6, 7], (1, 2, 1), [1]))

    def test_a_line_that_was_only_read_is_not(self):
        for rule in RULES:
            near = Near([4, 5, 6, 7], 1, 2, rule)
            looked(near, [0, 1, 2, 3, 0])
            self.assertEqual(state(near), ([4, 5, 6, 7], (2, 3, 0), [0]))

    def test_several_writes_are_written_back_once(self):
        near = Near([4, 5, 6, 7], 1, 2, "least")
        for number in range(5):
            near.put(0, number)
            near.put(1, number + 10)
        near.look(3)
        self.assertEqual(state(near), ([4, 14, 6, 7], (9, 2, 1), [1]))

    def test_a_write_of_the_same_number_is_a_write(self):
        near = Near([4, 5], 1, 1, "least")
        near.put(0, 4)
        near.look(1)
        self.assertEqual(near.back, 1)
        near.put(1, 5)
        near.settle()
        self.assertEqual(near.back, 2)
        self.assertEqual(near.far, [4, 5])

    def test_written_and_gone_and_come_again_it_is_read_as_it_was_written(self):
        for rule in RULES:
            near = Near([4, 5, 6, 7], 1, 2, rule)
            near.put(1, 9)
            near.look(2)
            self.assertEqual((near.look(1), near.look(0)), (9, 4))
            near.put(0, 8)
            near.look(2)
            self.assertEqual((near.look(1), near.look(0)), (9, 8))

    def test_come_again_and_only_read_it_is_not_written_back_again(self):
        near = Near([4, 5], 1, 1, "least")
        near.put(0, 9)
        near.look(1)
        near.look(0)
        near.look(1)
        self.assertEqual(state(near), ([9, 5], (0, 4, 1), [1]))

    def test_written_again_it_is_written_back_again(self):
        near = Near([4, 5], 1, 1, "least")
        for turn in range(1, 4):
            near.put(0, turn)
            near.look(1)
            self.assertEqual((near.far, near.back), ([turn, 5], turn))


class Settling(unittest.TestCase):
    def test_all_lines_near_that_were_written(self):
        for rule in RULES:
            near = Near([4, 5, 6, 7, 8], 3, 2, rule)
            near.put(4, 1)
            near.look(0)
            near.put(2, 3)
            self.assertIsNone(near.settle())
            self.assertEqual(state(near), ([4, 5, 3, 7, 1], (0, 3, 2), [2, 0, 1]))

    def test_settling_twice_writes_nothing_back_the_second_time(self):
        for rule in RULES:
            near = Near([4, 5, 6], 3, 1, rule)
            near.put(0, 9)
            near.put(1, 8)
            near.settle()
            before = state(near)
            self.assertEqual(before, ([9, 8, 6], (0, 2, 2), [0, 1]))
            near.settle()
            self.assertEqual(state(near), before)

    def test_with_nothing_near_and_with_nothing_written(self):
        near = Near([4, 5, 6], 3, 1, "least")
        near.settle()
        self.assertEqual(state(near), ([4, 5, 6], (0, 0, 0), []))
        near.look(1)
        near.settle()
        self.assertEqual(state(near), ([4, 5, 6], (0, 1, 0), [1]))

    def test_the_lines_stay_near(self):
        near = Near([4, 5, 6], 2, 1, "least")
        near.put(0, 9)
        near.look(1)
        near.settle()
        self.assertEqual((near.look(0), near.look(1)), (9, 5))
        self.assertEqual(counts(near), (2, 2, 1))

    def test_settled_and_not_written_since_it_goes_unwritten(self):
        near = Near([4, 5], 1, 1, "least")
        near.put(0, 9)
        near.settle()
        self.assertEqual(near.look(0), 9)
        near.look(1)
        self.assertEqual(state(near), ([9, 5], (1, 2, 1), [1]))

    def test_settled_and_written_since_it_is_written_back_again(self):
        near = Near([4, 5], 1, 1, "first")
        near.put(0, 9)
        near.settle()
        near.put(0, 8)
        self.assertEqual((near.far, near.back), ([9, 5], 1))
        near.look(1)
        self.assertEqual((near.far, near.back), ([8, 5], 2))
        near.put(1, 7)
        near.settle()
        near.put(1, 6)
        near.settle()
        self.assertEqual((near.far, near.back), ([8, 6], 4))

    def test_a_line_that_is_gone_is_not_written_back_by_settling(self):
        near = Near([4, 5], 1, 1, "first")
        near.put(0, 9)
        near.look(1)
        near.settle()
        self.assertEqual(state(near), ([9, 5], (0, 2, 1), [1]))


class NoBoxes(unittest.TestCase):
    def refused(self, near, thing):
        before = state(near)
        with self.assertRaises(NoBox):
            near.look(thing)
        self.assertEqual(state(near), before)
        with self.assertRaises(NoBox):
            near.put(thing, 9)
        self.assertEqual(state(near), before)

    def test_numbers_of_no_box(self):
        for size in (1, 2, 3, 199, 200):
            for width in (1, 2, 200):
                near = Near([7] * size, 1, width, "least")
                for thing in (-1, -size, size, size + 1, 200, 1000000, HUGE, -HUGE):
                    self.refused(near, thing)
                self.assertEqual(near.look(0), 7)
                self.assertEqual(near.look(size - 1), 7)

    def test_no_whole_numbers(self):
        for rule in RULES:
            near = Near([4, 5, 6], 2, 1, rule)
            for thing in no_numbers() + [deep(), [1], (1,), {1: 1}, "1", "box"]:
                self.refused(near, thing)

    def test_nothing_changes_though_lines_are_near_and_written(self):
        for rule in RULES:
            near = Near([4, 5, 6, 7], 2, 1, rule)
            near.put(1, 9)
            near.look(0)
            near.look(1)
            near.settle()
            near.put(0, 8)
            for thing in (True, False, None, "0", "", [0], (0,), {0: 0}, -1, -2, 4, 5, HUGE):
                self.refused(near, thing)
            self.assertEqual((near.look(0), near.look(1)), (8, 9))
            before = near.back
            # No line was marked as written: but for line 0 nothing is written back.
            near.settle()
            self.assertEqual((near.back, near.far), (before + 1, [8, 9, 6, 7]))


class Drawn(unittest.TestCase):
    def walks(self):
        """Near lines of many shapes over drawn boxes, with drawn touches for each."""
        draw = Draw(7)
        for size in (1, 2, 3, 5, 8, 13, 30, 200):
            for width in (1, 2, 3, 4, 7, 200):
                for room in (1, 2, 3, 5, 200):
                    for rule in RULES:
                        yield draw, draw.boxes(size), room, width, rule, draw.touches(60, size)

    def test_against_the_points_told_plainly(self):
        for draw, boxes, room, width, rule, touches in self.walks():
            near = Near(boxes, room, width, rule)
            plain = PlainNear(boxes, room, width, rule)
            for word, box in touches:
                if word == "read":
                    self.assertEqual(near.look(box), plain.look(box))
                else:
                    number = draw.below(1000000)
                    near.put(box, number)
                    plain.put(box, number)
                if draw.below(10) == 0:
                    near.settle()
                    plain.settle()
                self.assertEqual(state(near), state(plain), (boxes, room, width, rule, touches))
            near.settle()
            plain.settle()
            self.assertEqual(state(near), state(plain))

    def test_what_is_read_and_what_is_left_is_as_without_lines(self):
        for draw, boxes, room, width, rule, touches in self.walks():
            near = Near(boxes, room, width, rule)
            numbers = list(boxes)
            for word, box in touches:
                if word == "read":
                    self.assertEqual(near.look(box), numbers[box])
                else:
                    numbers[box] = draw.below(1000000)
                    near.put(box, numbers[box])
            near.settle()
            self.assertEqual(near.far, numbers)
            self.assertEqual(near.found + near.missed, len(touches))

    def test_with_more_room_by_least_whatever_was_near_is_near(self):
        draw = Draw(8)
        for size in (1, 3, 8, 30, 200):
            for width in (1, 2, 7):
                touches = draw.touches(150, size)
                for room in (1, 2, 3, 4, 9, 29, 199):
                    less = Near([0] * size, room, width, "least")
                    more = Near([0] * size, room + 1, width, "least")
                    for _, box in touches:
                        before = less.found, more.found
                        less.look(box)
                        more.look(box)
                        # A touch found with less room is not missed with more.
                        self.assertLessEqual(less.found - before[0], more.found - before[1])
                        self.assertLessEqual(set(less.held()), set(more.held()))


if __name__ == "__main__":
    unittest.main()
