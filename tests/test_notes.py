import unittest

from nearlines.errors import BadRow
from nearlines.notes import read_row, shown
from tests.samples import KINDS

PAIRS = (
    (("set", 3, 123456), "set 3 123456"),
    (("copy", 1, 2), "copy 1 2"),
    (("add", 1, 20, 199), "add 1 20 199"),
    (("sub", 4, 50, 6), "sub 4 50 6"),
    (("fetch", 6, 7), "fetch 6 7"),
    (("store", 8, 9), "store 8 9"),
    (("less", 10, 11, 200), "less 10 11 200"),
    (("jump", 200), "jump 200"),
    (("tell", 100), "tell 100"),
)


class Shown(unittest.TestCase):
    def test_each_word(self):
        for row, line in PAIRS:
            self.assertEqual(shown(row), line)

    def test_noughts(self):
        self.assertEqual(shown(("set", 0, 0)), "set 0 0")
        self.assertEqual(shown(("jump", 0)), "jump 0")
        self.assertEqual(shown(("add", 0, 10, 100)), "add 0 10 100")
        self.assertEqual(shown(("set", 0, 100000)), "set 0 100000")

    def test_six_figures(self):
        self.assertEqual(shown(("set", 199, 999999)), "set 199 999999")

    def test_beyond_the_limits_no_error_is_raised(self):
        self.assertEqual(shown(("set", 200, 1000000)), "set 200 1000000")


class ReadRow(unittest.TestCase):
    def read(self, line, row):
        told = read_row(line)
        self.assertEqual(told, row)
        self.assertIs(type(told), tuple)
        self.assertIs(type(told[0]), str)
        for number in told[1:]:
            self.assertIs(type(number), int)

    def refused(self, line):
        with self.assertRaises(BadRow, msg=repr(line)):
            read_row(line)

    def test_each_word(self):
        for row, line in PAIRS:
            self.read(line, row)

    def test_there_and_back(self):
        for word in KINDS:
            for number in (0, 1, 9, 10, 99, 100, 199, 200, 90909, 99999, 100000, 999999):
                row = (word, *[number] * len(KINDS[word]))
                self.read(shown(row), row)
                self.assertEqual(shown(read_row(shown(row))), shown(row))

    def test_the_numbers_keep_their_order(self):
        self.read("less 1 2 3", ("less", 1, 2, 3))
        self.read("sub 3 2 1", ("sub", 3, 2, 1))

    def test_whether_it_fits_is_not_looked_at(self):
        self.read("tell 999999", ("tell", 999999))
        self.read("jump 201", ("jump", 201))
        self.read("less 200 500 999999", ("less", 200, 500, 999999))

    def test_six_figures_and_seven(self):
        self.read("set 0 999999", ("set", 0, 999999))
        self.read("set 100000 0", ("set", 100000, 0))
        for line in ("set 0 1000000", "set 1000000 0", "jump 1234567", "tell 0000000", "tell 0000001"):
            self.refused(line)
        self.refused("tell " + "9" * 100000)

    def test_noughts_ahead(self):
        self.read("tell 0", ("tell", 0))
        for number in ("00", "01", "007", "000000", "000001", "0999"):
            self.refused("tell " + number)
            self.refused("set 0 " + number)
            self.refused("set " + number + " 0")

    def test_numbers_too_few_and_too_many(self):
        for word in KINDS:
            line = word + " 0" * len(KINDS[word])
            self.assertEqual(shown(read_row(line)), line)
            self.refused(line + " 0")
            self.refused(line[:-2])
            self.refused(word)

    def test_blanks_too_many_or_missing(self):
        for line in (
            " ", "  ", " set 0 5", "set  0 5", "set 0  5", "set 0 5 ", "set 05", "set0 5", "set05", "tell0",
            "tell ", "tell  ", "set 0 ", "set  0", " tell 0", "tell 0 ",
        ):
            self.refused(line)

    def test_line_ends_and_tabs_and_other_blanks(self):
        for sign in ("\n", "\r", "\r\n", "\t", "\v", "\f", "\x00", "\x1c", "\x85", "\xa0", "\u2003", "\u3000"):
            for line in (
                "tell 0" + sign, sign + "tell 0", "tell" + sign + "0", "tell " + sign + "0", "tell" + sign + " 0",
                "set 0" + sign + "5", "set 0 5" + sign, sign,
            ):
                self.refused(line)

    def test_other_signs(self):
        for number in (
            "+1", "-1", "-0", "1.0", "1.", "1e3", "1_0", "0x1", "a", "a1", "1a", "1,", ",", "'1'", "(1)", "None", "True",
            "\u00b2", "\u0661", "\u0967", "\uff11", "1\u0661", "\u2460", "\u4e00", "\ud800",
        ):
            self.refused("tell " + number)
            self.refused("set 1 " + number)
            self.refused("set " + number + " 1")
        for line in ("tell,0", "tell(0)", "tell:0", "('tell', 0)", "#tell 0", "tell 0 # told", "tell 0;", "tell 0tell 0"):
            self.refused(line)

    def test_other_words(self):
        for word in ("Tell", "TELL", "tel", "tells", "halt", "0", "box", "read", "write", "\ud800", "t\u0435ll"):
            for much in range(5):
                self.refused(word + " 0" * much)

    def test_the_empty_text(self):
        self.refused("")


if __name__ == "__main__":
    unittest.main()
