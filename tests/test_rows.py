import copy
import unittest

from nearlines.errors import BadRow
from nearlines.rows import checked, fits
from tests.samples import HUGE, KINDS, deep, no_numbers


def last_of(kind, size, count):
    return {"box": size - 1, "number": 999999, "place": count}[kind]


def row_of(word, at, thing):
    """A row of a word with noughts as its numbers, but for a thing at one of its places."""
    things = [0] * len(KINDS[word])
    things[at] = thing
    return (word, *things)


def each_number():
    """Each word, each of its numbers and what that one stands for."""
    return [(word, at, kind) for word in KINDS for at, kind in enumerate(KINDS[word])]


class Fits(unittest.TestCase):
    def fit(self, row, size=8, count=5):
        self.assertIs(fits(row, size, count), True, (row, size, count))

    def unfit(self, row, size=8, count=5):
        self.assertIs(fits(row, size, count), False)

    def test_ordinary_rows(self):
        for row in (
            ("set", 3, 123456), ("copy", 1, 2), ("add", 1, 2, 3), ("sub", 4, 5, 6), ("fetch", 6, 7),
            ("store", 7, 0), ("less", 1, 2, 3), ("jump", 4), ("tell", 5),
        ):
            self.fit(row)

    def test_each_number_at_its_edges(self):
        for size, count in ((1, 1), (2, 7), (8, 5), (199, 199), (200, 200), (1, 200), (200, 0), (1, 0)):
            for word, at, kind in each_number():
                last = last_of(kind, size, count)
                self.fit(row_of(word, at, 0), size, count)
                self.fit(row_of(word, at, last), size, count)
                self.unfit(row_of(word, at, last + 1), size, count)
                self.unfit(row_of(word, at, -1), size, count)
                self.unfit(row_of(word, at, HUGE), size, count)
                self.unfit(row_of(word, at, -HUGE), size, count)

    def test_numbers_of_set_told_outright(self):
        self.fit(("set", 0, 0), 1, 1)
        self.fit(("set", 0, 999999), 1, 1)
        self.unfit(("set", 0, 1000000), 1, 1)
        self.unfit(("set", 0, -1), 1, 1)

    def test_a_place_is_not_limited_by_the_boxes_nor_a_box_by_the_rows(self):
        self.fit(("jump", 9), 1, 9)
        self.fit(("tell", 9), 10, 0)
        self.unfit(("jump", 1), 10, 0)
        self.unfit(("less", 1, 0, 0), 1, 9)

    def test_one_and_two_hundred_boxes(self):
        self.fit(("tell", 0), 1, 1)
        self.unfit(("tell", 1), 1, 1)
        self.fit(("tell", 199), 200, 1)
        self.unfit(("tell", 200), 200, 1)

    def test_no_rows_and_two_hundred(self):
        self.fit(("jump", 0), 1, 0)
        self.unfit(("jump", 1), 1, 0)
        self.fit(("jump", 200), 1, 200)
        self.unfit(("jump", 201), 1, 200)
        self.fit(("less", 0, 0, 200), 1, 200)
        self.unfit(("less", 0, 0, 201), 1, 200)

    def test_the_same_box_more_than_once(self):
        for word in KINDS:
            self.fit(row_of(word, 0, 0), 1, 1)

    def test_beyond_the_limits_of_size_and_count_no_error_is_raised(self):
        self.fit(("tell", 200), 201, 0)
        self.fit(("jump", 201), 1, 201)
        self.unfit(("tell", 0), 0, 0)

    def test_a_number_too_few_and_too_many(self):
        for word in KINDS:
            full = (word, *[0] * len(KINDS[word]))
            self.fit(full)
            self.unfit(full[:-1])
            self.unfit(full + (0,))
            self.unfit((word,))
            self.unfit(full + (None,))

    def test_other_kinds_for_a_number(self):
        for word, at, _ in each_number():
            for thing in no_numbers() + [deep()]:
                self.unfit(row_of(word, at, thing))

    def test_other_words(self):
        for word in (
            "", "halt", "Set", "SET", "set ", " set", "sets", "se", "set\n", "box", "number", "place", "read", "write",
        ):
            for much in range(5):
                self.unfit((word, *[0] * much))

    def test_other_kinds_for_a_word(self):
        for thing in no_numbers() + [0, 1, b"set", ["set"], ("set",), {"set": 1}, {"set"}, deep()]:
            for much in range(5):
                self.unfit((thing, *[0] * much))

    def test_other_kinds_for_a_row(self):
        for thing in no_numbers() + [
            0, 1, -1, HUGE, "set", "tell 0", b"tell 0", ["tell", 0], ["set", 0, 0], [("tell", 0)], (("tell", 0),),
            {"tell": 0}, {"tell", 0}, range(2), iter(("tell", 0)), deep(),
        ]:
            self.unfit(thing)

    def test_the_row_is_unchanged(self):
        held = ["tell", 0]
        self.unfit(held)
        self.assertEqual(held, ["tell", 0])


class Checked(unittest.TestCase):
    def refused(self, rows, size):
        with self.assertRaises(BadRow):
            checked(rows, size)

    def test_a_new_list_of_the_same_rows(self):
        rows = [("set", 0, 5), ("less", 0, 1, 3), ("tell", 1)]
        told = checked(rows, 2)
        self.assertIs(type(told), list)
        self.assertEqual(told, [("set", 0, 5), ("less", 0, 1, 3), ("tell", 1)])
        self.assertIsNot(told, rows)
        rows.append(("tell", 0))
        self.assertEqual(len(told), 3)
        told.clear()
        self.assertEqual(len(rows), 4)

    def test_no_rows(self):
        rows = []
        told = checked(rows, 1)
        self.assertEqual(told, [])
        self.assertIsNot(told, rows)

    def test_two_hundred_rows_and_one_more(self):
        self.assertEqual(checked([("tell", 0)] * 200, 1), [("tell", 0)] * 200)
        self.refused([("tell", 0)] * 201, 1)
        self.refused([("tell", 0)] * 1000, 200)

    def test_one_and_two_hundred_boxes(self):
        self.assertEqual(checked([("tell", 0)], 1), [("tell", 0)])
        self.refused([("tell", 1)], 1)
        self.assertEqual(checked([("tell", 199)], 200), [("tell", 199)])
        self.refused([("tell", 200)], 200)

    def test_places_go_up_to_how_many_rows_there_are(self):
        for count in (1, 2, 3, 200):
            rest = [("tell", 0)] * (count - 1)
            for row in (("jump", count), ("less", 0, 0, count), ("jump", 0)):
                self.assertEqual(checked([row] + rest, 1), [row] + rest)
                self.assertEqual(checked(rest + [row], 1), rest + [row])
            self.refused([("jump", count + 1)] + rest, 1)
            self.refused(rest + [("less", 0, 0, count + 1)], 1)

    def test_one_row_that_does_not_fit_wherever_it_stands(self):
        for at in range(4):
            rows = [("tell", 0)] * 4
            rows[at] = ("tell", 2)
            self.refused(rows, 2)

    def test_each_number_beyond_its_edges(self):
        for word, at, kind in each_number():
            last = last_of(kind, 3, 1)
            self.assertEqual(checked([row_of(word, at, last)], 3), [row_of(word, at, last)])
            self.refused([row_of(word, at, last + 1)], 3)
            self.refused([row_of(word, at, -1)], 3)
            self.refused([row_of(word, at, HUGE)], 3)
            for thing in no_numbers() + [deep()]:
                self.refused([row_of(word, at, thing)], 3)

    def test_things_of_any_other_kind(self):
        for thing in no_numbers() + [0, HUGE, "tell 0", ["tell", 0], ("tell",), ("tell", 0, 0), (None, 0), deep()]:
            self.refused([thing], 1)
            self.refused([("tell", 0), thing], 1)

    def test_the_rows_are_unchanged(self):
        for rows in ([("set", 0, 5), ("jump", 2)], [("set", 0, 5), ["tell", 0]]):
            before = copy.deepcopy(rows)
            try:
                checked(rows, 1)
            except BadRow:
                pass
            self.assertEqual(rows, before)


if __name__ == "__main__":
    unittest.main()
