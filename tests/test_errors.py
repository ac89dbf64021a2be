import unittest

from nearlines.errors import BadBoxes, BadPlan, BadRow, BadShape, LineError, NoBox

FIVE = (BadRow, BadBoxes, BadShape, NoBox, BadPlan)


class Errors(unittest.TestCase):
    def test_line_error_stands_under_value_error(self):
        self.assertEqual(LineError.__bases__, (ValueError,))

    def test_each_of_the_five_stands_under_line_error(self):
        for error in FIVE:
            self.assertEqual(error.__bases__, (LineError,), error)

    def test_none_of_the_five_stands_under_another(self):
        self.assertEqual(len(set(FIVE)), 5)
        for one in FIVE:
            for other in FIVE:
                self.assertEqual(issubclass(one, other), one is other, (one, other))

    def test_names(self):
        names = [error.__name__ for error in (LineError,) + FIVE]
        self.assertEqual(names, ["LineError", "BadRow", "BadBoxes", "BadShape", "NoBox", "BadPlan"])

    def test_each_is_caught_as_line_error_and_as_value_error(self):
        for error in FIVE:
            with self.assertRaises(LineError):
                raise error("why")
            with self.assertRaises(ValueError):
                raise error("why")


if __name__ == "__main__":
    unittest.main()
