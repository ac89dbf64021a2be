import copy
import unittest

from nearlines.depths import depths, missed_by
from nearlines.machine import run
from nearlines.near import Near
from tests.plain import plain_depths
from tests.samples import HUGE, Draw


def reads(boxes):
    return [("read", box) for box in boxes]


class Depths(unittest.TestCase):
    def deep(self, boxes, width, told):
        self.assertEqual(depths(reads(boxes), width), told, (boxes, width))

    def test_no_touches(self):
        for width in (1, 200, 1000, HUGE):
            told = depths([], width)
            self.assertEqual(told, [])
            self.assertIs(type(told), list)

    def test_a_line_touched_for_the_first_time_has_none(self):
        self.deep([0], 1, [None])
        self.deep([0, 1, 2, 3], 1, [None] * 4)

    def test_the_same_line_again_and_again(self):
        self.deep([0, 0, 0], 1, [None, 0, 0])
        self.deep([0, 1, 2, 1], 3, [None, 0, 0, 0])

    def test_how_many_other_lines_since(self):
        self.deep([0, 1, 0], 1, [None, None, 1])
        self.deep([0, 1, 2, 0], 1, [None, None, None, 2])
        self.deep([0, 1, 2, 0, 1, 2], 1, [None, None, None, 2, 2, 2])
        self.deep([0, 1, 2, 2, 1, 0], 1, [None, None, None, 0, 1, 2])

    def test_each_line_counted_once(self):
        self.deep([0, 1, 1, 1, 0], 1, [None, None, 0, 0, 1])
        self.deep([0, 1, 2, 1, 2, 1, 0], 1, [None, None, None, 1, 1, 1, 2])
        self.deep([0, 2, 3, 2, 0], 2, [None, None, 0, 0, 1])

    def test_only_lines_since_the_last_touch(self):
        self.deep([1, 2, 3, 0, 0], 1, [None, None, None, None, 0])
        self.deep([0, 1, 2, 0, 3, 0], 1, [None, None, None, 2, None, 1])

    def test_boxes_of_one_line_are_one(self):
        self.deep([0, 4, 1, 5, 8, 2], 4, [None, None, 1, 1, None, 2])
        self.deep([3, 4], 4, [None, None])
        self.deep([0, 3], 4, [None, 0])

    def test_a_read_and_a_write_are_both_touches(self):
        touches = [("write", 0), ("read", 1), ("write", 1), ("read", 0), ("write", 0), ("write", 1)]
        self.assertEqual(depths(touches, 1), [None, None, 0, 1, 0, 1])

    def test_any_box_and_any_width(self):
        self.deep([200, 1000000, 200, HUGE, HUGE, 200], 1, [None, None, 1, None, 0, 1])
        self.deep([200, 1000000, 0], 201, [None, None, 1])
        self.deep([0, HUGE - 1, HUGE, 0], HUGE, [None, 0, None, 1])
        self.deep([0, 12345, 67890, 0], 1000000, [None, 0, 0, 0])

    def test_against_plain_counting(self):
        draw = Draw(21)
        for size in (1, 2, 3, 5, 8, 30, 200, 1000, 10 ** 9):
            for width in (1, 2, 3, 7, 200, 1000):
                for count in (1, 2, 40, 90):
                    touches = draw.touches(count, size)
                    self.assertEqual(depths(touches, width), plain_depths(touches, width), (touches, width))

    def test_of_a_run(self):
        rows = [("add", 0, 0, 1), ("tell", 0), ("less", 0, 2, 0)]
        touches = run(rows, [0, 2, 5], 3)[3]
        self.assertEqual(depths(touches, 1), [None, None, 1, 0, 0, None])
        self.assertEqual(depths(touches, 2), [None, 0, 0, 0, 0, None])

    def test_many_touches(self):
        # assertTrue, because to show how two lists of this length differ takes hours.
        count = 50000
        self.assertTrue(depths(reads(range(count)), 1) == [None] * count)
        again = reads(list(range(200)) * 250)
        self.assertTrue(depths(again, 1) == [None] * 200 + [199] * (count - 200))

    def test_the_touches_are_unchanged(self):
        touches = [("read", 0), ("write", 1), ("read", 0)]
        before = copy.deepcopy(touches)
        told = depths(touches, 1)
        self.assertEqual(touches, before)
        touches.clear()
        self.assertEqual(told, [None, None, 1])
        told.clear()
        self.assertEqual(depths(before, 1), [None, None, 1])


class MissedBy(unittest.TestCase):
    def test_no_touches(self):
        for room in (1, 200, HUGE):
            self.assertEqual(missed_by([], room), 0)

    def test_none_is_missed_by_any_room(self):
        for room in (1, 2, 200, HUGE):
            self.assertEqual(missed_by([None], room), 1)
            self.assertEqual(missed_by([None, None, 0], room), 2)

    def test_a_depth_less_than_the_room_is_found(self):
        for room in (1, 2, 3, 200, 1000):
            self.assertEqual(missed_by([None, room - 1], room), 1)
            self.assertEqual(missed_by([None, room], room), 2)
            self.assertEqual(missed_by([None, room + 1], room), 2)
            self.assertEqual(missed_by([None, 0], room), 1)

    def test_several(self):
        told = [None, None, 1, 0, None, 2, 2, 0]
        self.assertEqual([missed_by(told, room) for room in (1, 2, 3, 4)], [6, 5, 3, 3])

    def test_against_near_by_the_rule_least(self):
        draw = Draw(22)
        for size in (1, 2, 3, 5, 8, 30, 200):
            for width in (1, 2, 3, 7, 200):
                touches = draw.touches(100, size)
                told = depths(touches, width)
                for room in (1, 2, 3, 4, 5, 8, 29, 30, 199, 200):
                    near = Near([0] * size, room, width, "least")
                    for depth, (word, box) in zip(told, touches):
                        before = near.found
                        if word == "read":
                            near.look(box)
                        else:
                            near.put(box, 1)
                        # Found just where the depth is no None and less than the room.
                        self.assertEqual(near.found - before, int(depth is not None and depth < room))
                    self.assertEqual(missed_by(told, room), near.missed, (touches, width, room))

    def test_with_more_room_no_more_is_missed(self):
        draw = Draw(23)
        for size in (1, 3, 8, 30, 200):
            told = depths(draw.touches(200, size), 1)
            missed = [missed_by(told, room) for room in range(1, 210)]
            self.assertEqual(missed, sorted(missed, reverse=True))
            # With room for all lines each line is missed once.
            self.assertEqual(missed[-1], told.count(None))

    def test_the_list_is_unchanged(self):
        told = [None, 0, 5]
        missed_by(told, 1)
        self.assertEqual(told, [None, 0, 5])


if __name__ == "__main__":
    unittest.main()
