"""Point 2: what an integer, an amount, an ascending tuple and the like are."""

import itertools
import unittest

from payorder.checks import (
    are_amounts, is_amount, is_ascending_below, is_distinct_below, is_integer, is_number_below, is_order, is_tuple_of,
)
from payorder.limits import MAX_AMOUNT
from samples import LONG, NOT_ASCENDING, ODD_VALUES, not_orders, other_kinds, other_lengths


class TestChecks(unittest.TestCase):
    def test_integers(self):
        for value in (0, 1, -1, 10, LONG, -LONG):
            self.assertIs(is_integer(value), True)

    def test_no_integers(self):
        for value in ODD_VALUES + NOT_ASCENDING + ((), (0,)):
            self.assertIs(is_integer(value), False)

    def test_numbers_below(self):
        for value in (0, 1, 2):
            self.assertIs(is_number_below(value, 3), True)
        for value in (-1, 3, 4, LONG, -LONG, True, False, None, "1", (1,)):
            self.assertIs(is_number_below(value, 3), False)
        self.assertIs(is_number_below(0, 0), False)

    def test_ascending_below(self):
        for value in ((), (0,), (2,), (0, 1), (0, 2), (0, 1, 2)):
            self.assertIs(is_ascending_below(value, 3), True)
        self.assertIs(is_ascending_below((), 0), True)

    def test_not_ascending_below(self):
        for value in ODD_VALUES + NOT_ASCENDING + ((3,), (0, 3), [], [0, 1], 0, 1):
            with self.subTest(repr(value)[:60]):
                self.assertIs(is_ascending_below(value, 3), False)

    def test_tuples_of_a_length(self):
        for value in ((), (0,), (None, "a"), ([], {}, ())):
            for length in range(4):
                self.assertIs(is_tuple_of(value, length), len(value) == length)
        for value in (None, True, 0, 1, "", "a", [], [0], {}, {0: 1}):
            self.assertIs(is_tuple_of(value, 0), False)
            self.assertIs(is_tuple_of(value, 1), False)

    def test_distinct_below(self):
        for many in range(5):
            for value in itertools.product(range(-1, 4), repeat=many):
                expected = len(set(value)) == many and not set(value) & {-1, 3}
                self.assertIs(is_distinct_below(value, 3), expected)

    def test_not_distinct_below(self):
        for value in [*ODD_VALUES, 0, 1, *other_kinds((2, 0, 1)), ((0,), (0,)), ([0], 0), (0, True), (1, True)]:
            with self.subTest(repr(value)[:60]):
                self.assertIs(is_distinct_below(value, 3), False)

    def test_orders(self):
        for many in range(1, 5):
            for value in itertools.product(range(-1, many + 1), repeat=many):
                self.assertIs(is_order(value, many), sorted(value) == list(range(many)))
            for value in not_orders(many):
                self.assertIs(is_order(value, many), False)

    def test_amounts(self):
        for value in (0, 1, 2, MAX_AMOUNT - 1, MAX_AMOUNT):
            self.assertIs(is_amount(value), True)
        for value in (*ODD_VALUES, *NOT_ASCENDING, -1, MAX_AMOUNT + 1, LONG, -LONG, (), (0,)):
            self.assertIs(is_amount(value), False)

    def test_tuples_of_amounts(self):
        for value in ((), (0,), (MAX_AMOUNT, 0), (1, 1, 1)):
            self.assertIs(are_amounts(value, len(value)), True)
            self.assertIs(are_amounts(value, len(value) + 1), False)
        for value in [*ODD_VALUES, 0, *other_kinds((1, 0)), *other_lengths((1, 0)), (0, MAX_AMOUNT + 1), (-1, 0)]:
            self.assertIs(are_amounts(value, 2), False)


if __name__ == "__main__":
    unittest.main()
