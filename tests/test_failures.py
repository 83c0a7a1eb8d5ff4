"""Points 35 to 37: bad orders."""

import itertools
import unittest

import plain
from cases import Case
from payorder import failures
from payorder.errors import NoOrder
from payorder.failures import find_failure, is_failure
from payorder.limits import MAX_AMOUNT
from plain import ALL, EDGE_TABLES, FREE_TABLES, LARGE_TABLES, ORDERABLE_TABLES, RING_TABLES, compared_tables
from samples import LONG, NOT_ASCENDING, ODD_VALUES, R, T, not_orders, other_kinds, other_lengths

BAD = (1, 0, 2)
FAILURE = ((1, 1), (1, 1, 1), (1, 0, 1))


class TestInterface(Case):
    def test_names_and_parameters(self):
        self.assert_interface(failures, {
            "find_failure": ["table", "order"],
            "is_failure": ["table", "order", "value"],
        })

    def test_arguments_stay(self):
        for value in (*ODD_VALUES, BAD, list(BAD), FAILURE, [[1, 1], [1, 1, 1], [1, 0, 1]]):
            self.assert_leaves(find_failure, T, value)
            self.assert_leaves(is_failure, T, value, FAILURE)
            self.assert_leaves(is_failure, T, BAD, value)

    def test_largest_tables_are_quick(self):
        for table in LARGE_TABLES:
            amounts = ((1,) * len(table[1]), (1,) * table[0])
            for order in (ALL, ALL[::-1]):
                self.assert_quick(find_failure, table, order)
                self.assert_quick(is_failure, table, order, (*amounts, (1,) * table[0]))


class TestFindFailure(Case):
    def test_every_order(self):
        for table in compared_tables():
            for order in itertools.permutations(range(table[0])):
                self.check(table, order)

    def test_largest(self):
        for table in LARGE_TABLES:
            for order in (ALL, ALL[::-1], ALL[1::2] + ALL[::2], ALL[5:] + ALL[:5]):
                self.check(table, order)

    def test_nested(self):
        for table in FREE_TABLES + EDGE_TABLES:
            self.assertIsNone(find_failure(table, tuple(range(table[0]))[::-1]))

    def test_not_nested(self):
        for table in RING_TABLES:
            self.assertIsNotNone(find_failure(table, ALL))

    def check(self, table, order):
        found = find_failure(table, order)
        if plain.is_nested(table, order):
            self.assertIsNone(found)
            return
        self.assertIs(is_failure(table, order, found), True)
        prices, penalties, collection = found
        for row, many in ((prices, len(table[1])), (penalties, table[0]), (collection, table[0])):
            self.assertIs(type(row), tuple)
            self.assertEqual([type(amount) for amount in row], [int] * many)
            self.assertTrue(all(0 <= amount <= MAX_AMOUNT for amount in row))
        self.assertTrue(plain.is_collection(table, prices, penalties, collection))
        self.assertGreater(sum(collection), sum(plain.payments_along(table, prices, penalties, order)))

    def test_no_order(self):
        for table in (T, R) + EDGE_TABLES + LARGE_TABLES:
            for order in not_orders(table[0]):
                self.assert_raises(NoOrder, {}, find_failure, table, order)


class TestIsFailure(Case):
    def test_by_definition(self):
        for order in itertools.permutations(range(3)):
            for prices in itertools.product(range(3), repeat=2):
                for penalties in itertools.product(range(3), repeat=3):
                    total = sum(plain.payments_along(T, prices, penalties, order))
                    for paid in itertools.product(range(3), repeat=3):
                        expected = plain.is_collection(T, prices, penalties, paid) and sum(paid) > total
                        self.assertIs(is_failure(T, order, (prices, penalties, paid)), expected)

    def test_a_nested_order_has_none(self):
        for order in ((0, 1, 2), (2, 1, 0), (0, 2, 1), (2, 0, 1)):
            self.assert_rejects(is_failure, T, order, FAILURE)
        for table in FREE_TABLES + ORDERABLE_TABLES[:1]:
            value = ((3,) * len(table[1]), (1,) * table[0], (1,) * table[0])
            self.assert_rejects(is_failure, table, ALL, value)

    def test_greatest_amounts(self):
        great = MAX_AMOUNT
        self.assertIs(is_failure(T, BAD, ((great,) * 2, (great,) * 3, (great, 0, great))), True)
        self.assert_rejects(is_failure, T, BAD, ((great + 1,) * 2, (great,) * 3, (great, 0, great)))
        self.assert_rejects(is_failure, T, BAD, ((great,) * 2, (great + 1, great, great), (great, 0, great)))
        self.assert_rejects(is_failure, T, BAD, ((great,) * 2, (great, LONG, great), (great, 0, great)))
        self.assert_rejects(is_failure, T, BAD, ((great,) * 2, (great,) * 3, (great + 1, -1, great)))

    def test_the_same_total_is_no_failure(self):
        self.assert_rejects(is_failure, T, BAD, ((1, 1), (1, 1, 1), (1, 0, 0)))
        self.assert_rejects(is_failure, T, BAD, ((0, 0), (0, 0, 0), (0, 0, 0)))

    def test_no_collection(self):
        for paid in ((1, 1, 1), (2, 0, 1), (1, 0, 2), (1, -1, 2), (2, -1, 2), (2, -1, 1)):
            self.assert_rejects(is_failure, T, BAD, ((1, 1), (1, 1, 1), paid))

    def test_lengths(self):
        self.assertIs(is_failure(T, BAD, FAILURE), True)
        prices, penalties, paid = FAILURE
        for row in other_lengths(prices):
            self.assert_rejects(is_failure, T, BAD, (row, penalties, paid))
        for row in other_lengths(penalties):
            self.assert_rejects(is_failure, T, BAD, (prices, row, paid))
        for row in other_lengths(paid):
            self.assert_rejects(is_failure, T, BAD, (prices, penalties, row))
        self.assert_rejects(is_failure, T, BAD, ((1, 1, 0), penalties, paid))
        self.assert_rejects(is_failure, T, BAD, (prices, (1, 1, 1, 0), paid))
        self.assert_rejects(is_failure, T, BAD, (prices, penalties, (1, 0, 1, 0)))

    def test_other_values(self):
        for value in other_kinds(FAILURE) + other_lengths(FAILURE):
            self.assert_rejects(is_failure, T, BAD, value)
        for table in (R,) + RING_TABLES:
            order = tuple(range(table[0]))
            found = find_failure(table, order)
            for value in other_kinds(found) + other_lengths(found):
                self.assert_rejects(is_failure, table, order, value)
        for table in (T, R) + EDGE_TABLES + LARGE_TABLES:
            for value in (*ODD_VALUES, *NOT_ASCENDING, 0, (), ((), (), ()), (0, 0, 0), (None, None, None)):
                self.assert_rejects(is_failure, table, tuple(range(table[0])), value)

    def test_no_order(self):
        for table in (T, R) + EDGE_TABLES + LARGE_TABLES:
            for order in not_orders(table[0]):
                self.assert_raises(NoOrder, {}, is_failure, table, order, FAILURE)

    def test_no_order_whatever_the_value(self):
        for value in ODD_VALUES:
            self.assert_raises(NoOrder, {}, is_failure, T, (0, 1), value)
            self.assert_raises(NoOrder, {}, is_failure, T, value, value)


if __name__ == "__main__":
    unittest.main()
