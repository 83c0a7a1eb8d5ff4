"""Point 2: what an integer is, and what an ascending tuple is."""

import unittest

from payorder.checks import is_ascending_below, is_integer, is_number_below
from samples import LONG, NOT_ASCENDING, ODD_VALUES


class TestChecks(unittest.TestCase):
    def test_integers(self):
        for value in (0, 1, -1, 10, LONG, -LONG):
            self.assertIs(is_integer(value), True)

    def test_no_integers(self):
        for value in ODD_VALUES + NOT_ASCENDING + ((), (0,)):
            self.assertIs(is_integer(value), False)

    def test_numbers_below(self):
        for value in (0, 1, 2):
            self.assertIs(is_number_below(value, 3), True)
        for value in (-1, 3, 4, LONG, -LONG, True, False, None, "1", (1,)):
            self.assertIs(is_number_below(value, 3), False)
        self.assertIs(is_number_below(0, 0), False)

    def test_ascending_below(self):
        for value in ((), (0,), (2,), (0, 1), (0, 2), (0, 1, 2)):
            self.assertIs(is_ascending_below(value, 3), True)
        self.assertIs(is_ascending_below((), 0), True)

    def test_not_ascending_below(self):
        for value in ODD_VALUES + NOT_ASCENDING + ((3,), (0, 3), [], [0, 1], 0, 1):
            with self.subTest(repr(value)[:60]):
                self.assertIs(is_ascending_below(value, 3), False)


if __name__ == "__main__":
    unittest.main()
