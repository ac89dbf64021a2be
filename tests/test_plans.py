import copy
import itertools
import unittest

from nearlines.depths import depths, missed_by
from nearlines.errors import BadPlan
from nearlines.near import Near
from nearlines.plans import best, walked
from tests.plain import all_plans, plain_best, plain_walked
from tests.samples import HUGE, RULES, Draw, deep, no_numbers


def reads(boxes):
    return [("read", box) for box in boxes]


def plan_of(touches, size, room, width, rule):
    """The plan that near lines of a rule follow, and how many touches they miss."""
    near = Near([0] * size, room, width, rule)
    plan = []
    for _, box in touches:
        before = near.held()
        near.look(box)
        behind = near.held()
        gone = [line for line in before if line not in behind]
        plan.append(gone[0] if gone else None)
    return plan, near.missed


class Walked(unittest.TestCase):
    def misses(self, boxes, room, width, plan, missed):
        self.assertEqual(walked(reads(boxes), room, width, plan), missed, (boxes, room, width, plan))

    def refused(self, boxes, room, width, plan):
        with self.assertRaises(BadPlan):
            walked(reads(boxes), room, width, plan)

    def test_no_touches(self):
        for room in (1, 200, HUGE):
            for width in (1, 200, HUGE):
                self.misses([], room, width, [], 0)
                self.refused([], room, width, [None])
                self.refused([], room, width, [0])

    def test_one_touch(self):
        for room in (1, 200, HUGE):
            for width in (1, 200, HUGE):
                self.misses([0], room, width, [None], 1)
                self.refused([0], room, width, [0])

    def test_what_is_near_is_found(self):
        self.misses([0, 0, 0], 1, 1, [None, None, None], 1)
        self.misses([0, 1, 0, 1], 2, 1, [None] * 4, 2)
        self.misses([0, 1, 2, 3], 1, 4, [None] * 4, 1)

    def test_a_line_goes_where_there_is_no_room(self):
        self.misses([0, 1, 0], 1, 1, [None, 0, 1], 3)
        self.misses([0, 1, 2, 0], 2, 1, [None, None, 0, 1], 4)
        self.misses([0, 1, 2, 0], 2, 1, [None, None, 0, 2], 4)
        self.misses([0, 1, 2, 0], 2, 1, [None, None, 1, None], 3)

    def test_lines_by_a_width(self):
        self.misses([0, 1, 2, 3, 0], 1, 2, [None, None, 0, None, 1], 3)
        self.misses([5, 4, 8, 5], 1, 4, [None, None, 1, 2], 3)
        self.refused([5, 4, 8, 5], 1, 4, [None, None, 4, 8])

    def test_a_line_that_is_touched_again_is_missed_again(self):
        self.misses([0, 1, 2, 1, 0], 2, 1, [None, None, 1, 2, None], 4)

    def test_reads_and_writes_alike(self):
        touches = [("write", 0), ("read", 1), ("write", 0), ("write", 2)]
        self.assertEqual(walked(touches, 2, 1, [None, None, None, 1]), 3)

    def test_a_plan_of_another_length(self):
        for plan in ([], [None], [None, 0, None], [None, 0, 1], [None] * 9):
            self.refused([0, 1], 1, 1, plan)
        self.refused([0, 0], 1, 1, [None])
        self.refused([0, 0], 1, 1, [None, None, None])

    def test_a_line_that_goes_at_a_touch_that_is_found(self):
        self.refused([0, 0], 1, 1, [None, 0])
        self.refused([0, 1, 0], 2, 1, [None, None, 1])
        self.refused([0, 1, 1], 2, 1, [None, None, 0])

    def test_a_line_that_goes_while_there_is_room(self):
        self.refused([0], 1, 1, [0])
        self.refused([0, 1], 2, 1, [None, 0])
        self.refused([0, 1], 3, 1, [None, 0])
        self.refused([0, 1, 2], 3, 1, [None, None, 1])

    def test_none_goes_where_one_must(self):
        self.refused([0, 1], 1, 1, [None, None])
        self.refused([0, 1, 2], 2, 1, [None, None, None])
        self.refused([0, 1, 0], 1, 1, [None, 0, None])

    def test_a_line_that_is_not_near(self):
        for gone in (1, 2, -1, 200, HUGE, -HUGE):
            # Line 1 is the very one that comes.
            self.refused([0, 1], 1, 1, [None, gone])
        self.refused([0, 1, 2], 1, 1, [None, 0, 0])
        self.refused([0, 1, 2, 3], 2, 1, [None, None, 0, 0])

    def test_other_things_are_no_lines_near(self):
        for thing in no_numbers() + [deep()]:
            self.refused([0, 1], 1, 1, [None, thing])
            self.refused([1, 0], 1, 1, [None, thing])
            self.refused([0, 1, 2], 2, 1, [None, None, thing])
            # None is the one thing to stand where no line goes.
            if thing is not None:
                self.refused([0, 1, 0], 2, 1, [None, None, thing])

    def test_true_and_false_are_no_lines(self):
        self.misses([0, 1, 0], 1, 1, [None, 0, 1], 3)
        self.refused([0, 1, 0], 1, 1, [None, False, 1])
        self.refused([0, 1, 0], 1, 1, [None, 0, True])
        self.refused([0, 0], 1, 1, [None, False])

    def test_a_fault_behind_all_others_is_refused(self):
        self.misses([0, 1, 2, 0, 1, 2], 2, 1, [None, None, 1, None, 0, None], 4)
        for last in (0, 1, 2):
            self.refused([0, 1, 2, 0, 1, 2], 2, 1, [None, None, 1, None, 0, last])

    def test_any_box_and_any_room_and_width(self):
        self.misses([200, 1000000, HUGE], 1, 1, [None, 200, 1000000], 3)
        self.misses([HUGE, HUGE, 0], 1, 1, [None, None, HUGE], 2)
        self.misses([0, HUGE, HUGE - 1], 1, HUGE, [None, 0, 1], 3)
        self.misses([300, 0, 301], 201, 201, [None, None, None], 2)
        self.refused([HUGE, HUGE + 1], 1, 1, [None, None])
        self.refused([HUGE, HUGE], 1, 1, [None, HUGE])
        self.refused([HUGE, 0], 1, 1, [None, HUGE + 1])
        self.misses(list(range(1000)), 1000, 1, [None] * 1000, 1000)

    def test_against_plain_walking(self):
        draw = Draw(31)
        kept = 0
        for _ in range(4000):
            size = 1 + draw.below(6)
            touches = draw.touches(draw.below(8), size)
            room = 1 + draw.below(3)
            width = 1 + draw.below(3)
            plan = draw.one_of(all_plans(touches, room, width))[0]
            if touches and draw.below(2):
                # Mostly no plan any more.
                plan[draw.below(len(plan))] = draw.one_of((None, 0, 1, 2, 3, 5, 6))
            missed = plain_walked(touches, room, width, plan)
            if missed is None:
                with self.assertRaises(BadPlan):
                    walked(touches, room, width, plan)
            else:
                kept += 1
                self.assertEqual(walked(touches, room, width, plan), missed, (touches, room, width, plan))
        self.assertGreater(kept, 1000)
        self.assertLess(kept, 3900)

    def test_against_plain_walking_each_plan_there_could_be(self):
        for boxes in ([0, 1, 2], [0, 1, 0], [0, 0, 1], [2, 1, 0], [0, 2, 4]):
            touches = reads(boxes)
            for room in (1, 2, 3):
                for width in (1, 2, 3):
                    for plan in itertools.product((None, 0, 1, 2, 3), repeat=3):
                        plan = list(plan)
                        missed = plain_walked(touches, room, width, plan)
                        if missed is None:
                            self.refused(boxes, room, width, plan)
                        else:
                            self.misses(boxes, room, width, plan, missed)

    def test_the_plans_of_the_rules(self):
        draw = Draw(32)
        for size in (1, 3, 8, 30):
            for width in (1, 2, 7, 200):
                touches = draw.touches(80, size)
                for room in (1, 2, 3, 9, 200):
                    for rule in RULES:
                        plan, missed = plan_of(touches, size, room, width, rule)
                        self.assertEqual(walked(touches, room, width, plan), missed)

    def test_what_is_handed_in_is_unchanged(self):
        for plan in ([None, None, 0, 1], [None, None, 0, None], [None]):
            touches = [("read", 0), ("write", 1), ("read", 2), ("read", 0)]
            before = copy.deepcopy((touches, plan))
            try:
                walked(touches, 2, 1, plan)
            except BadPlan:
                pass
            self.assertEqual((touches, plan), before)


class Best(unittest.TestCase):
    def best(self, boxes, room, width, plan):
        self.assertEqual(best(reads(boxes), room, width), plan, (boxes, room, width))

    def test_no_touches(self):
        for room in (1, 200, HUGE):
            for width in (1, 200, HUGE):
                plan = best([], room, width)
                self.assertEqual(plan, [])
                self.assertIs(type(plan), list)

    def test_one_touch_and_one_line(self):
        for room in (1, 200, HUGE):
            for width in (1, 200, HUGE):
                self.best([0], room, width, [None])
                self.best([0, 0, 0], room, width, [None] * 3)

    def test_room_of_one(self):
        self.best([0, 1, 1, 0, 2], 1, 1, [None, 0, None, 1, 0])

    def test_no_line_goes_while_there_is_room(self):
        self.best([3, 1, 2, 1, 3], 3, 1, [None] * 5)
        self.best([3, 1, 2, 1, 3], 200, 1, [None] * 5)
        self.best([0, 1, 2, 3, 4], 1, 5, [None] * 5)

    def test_the_line_touched_again_last_goes(self):
        self.best([0, 1, 2, 0, 1, 2], 2, 1, [None, None, 1, None, 0, None])
        self.best([0, 1, 2, 1, 0], 2, 1, [None, None, 0, None, 1])
        self.best([2, 1, 0, 3, 1, 0, 2], 3, 1, [None, None, None, 2, None, None, 0])

    def test_its_next_touch_counts_and_no_later_one(self):
        # Line 0 is touched sooner again than line 1, though it is touched last of all, too.
        self.best([0, 1, 2, 0, 1, 0], 2, 1, [None, None, 1, None, 2, None])
        # The touches before count for nothing.
        self.best([0, 1, 1, 0, 0, 2, 1, 0], 2, 1, [None] * 5 + [0, None, 1])

    def test_a_line_not_touched_again_goes_ahead_of_all_that_are(self):
        self.best([0, 1, 2, 1], 2, 1, [None, None, 0, None])
        self.best([0, 1, 2, 0], 2, 1, [None, None, 1, None])
        # The greater number goes, too, where the lesser one is touched again.
        self.best([0, 9, 5, 0, 5], 2, 1, [None, None, 9, None, None])

    def test_of_several_not_touched_again_the_least_number_goes(self):
        self.best([0, 1, 2, 3], 3, 1, [None, None, None, 0])
        self.best([2, 1, 0, 3], 3, 1, [None, None, None, 0])
        self.best([5, 3, 9, 7, 1, 8], 3, 1, [None, None, None, 3, 5, 1])
        self.best([5, 3, 9, 7, 9], 3, 1, [None, None, None, 3, None])

    def test_lines_by_a_width(self):
        self.best([0, 2, 4, 1, 3, 5], 2, 2, [None, None, 1, None, 0, None])
        self.best([7, 0, 6], 1, 4, [None, 1, 0])

    def test_reads_and_writes_alike(self):
        touches = [("write", 0), ("read", 1), ("write", 2), ("read", 1)]
        self.assertEqual(best(touches, 2, 1), [None, None, 0, None])

    def test_any_box_and_any_room_and_width(self):
        self.best([200, 1000000, HUGE, 200], 2, 1, [None, None, 1000000, None])
        self.best([0, HUGE, HUGE - 1, HUGE + 1], 1, HUGE, [None, 0, 1, 0])
        self.best(list(range(1000)), 999, 1, [None] * 999 + [0])
        self.best(list(range(1000)), 1000, 1, [None] * 1000)

    def test_against_the_point_told_plainly(self):
        draw = Draw(33)
        for size in (1, 2, 3, 5, 8, 30, 200, 10 ** 9):
            for width in (1, 2, 3, 7, 200):
                for room in (1, 2, 3, 5, 9, 200):
                    touches = draw.touches(70, size)
                    self.assertEqual(best(touches, room, width), plain_best(touches, room, width))

    def test_no_plan_of_a_short_row_misses_fewer(self):
        for size, count in ((2, 7), (3, 6), (4, 5)):
            for boxes in itertools.product(range(size), repeat=count):
                touches = reads(boxes)
                for room in (1, 2, 3):
                    missed = walked(touches, room, 1, best(touches, room, 1))
                    least = min(missed for _, missed in all_plans(touches, room, 1))
                    self.assertEqual(missed, least, (boxes, room))

    def test_no_plan_of_a_drawn_row_misses_fewer(self):
        draw = Draw(34)
        for _ in range(150):
            size = 2 + draw.below(8)
            touches = draw.touches(9, size)
            room = 1 + draw.below(3)
            width = 1 + draw.below(2)
            ways = dict((tuple(plan), missed) for plan, missed in all_plans(touches, room, width))
            plan = best(touches, room, width)
            self.assertEqual(walked(touches, room, width, plan), ways[tuple(plan)])
            self.assertEqual(ways[tuple(plan)], min(ways.values()), (touches, room, width))

    def test_no_rule_misses_fewer(self):
        draw = Draw(35)
        for size in (1, 3, 8, 30, 200):
            for width in (1, 2, 7):
                touches = draw.touches(150, size)
                told = depths(touches, width)
                for room in (1, 2, 3, 9, 200):
                    missed = walked(touches, room, width, best(touches, room, width))
                    self.assertLessEqual(missed, missed_by(told, room))
                    for rule in RULES:
                        self.assertLessEqual(missed, plan_of(touches, size, room, width, rule)[1])

    def test_with_more_room_no_more_is_missed(self):
        draw = Draw(36)
        for size in (1, 8, 30):
            touches = draw.touches(150, size)
            missed = [walked(touches, room, 1, best(touches, room, 1)) for room in range(1, 33)]
            self.assertEqual(missed, sorted(missed, reverse=True))

    def test_the_touches_are_unchanged(self):
        touches = [("read", 0), ("write", 1), ("read", 2), ("read", 0)]
        before = copy.deepcopy(touches)
        plan = best(touches, 2, 1)
        self.assertEqual(touches, before)
        touches.clear()
        self.assertEqual(plan, [None, None, 1, None])
        plan.clear()
        self.assertEqual(best(before, 2, 1), [None, None, 1, None])


if __name__ == "__main__":
    unittest.main()
