"""Points 12 to 21: nested orders."""

import itertools
import math
import unittest

import plain
from cases import Case
from payorder import orders
from payorder.errors import NoDemands, NoIndex, NoOrder
from payorder.limits import MAX_DEMANDS
from payorder.orders import (
    count_nested_orders, find_conflict, first_nested_order, is_conflict, is_nested_order, nested_order_at,
    nested_order_index, simple_demands, sort_offers,
)
from plain import ALL, EDGE_TABLES, FREE_TABLES, LARGE_TABLES, ORDERABLE_TABLES, RING_TABLES, compared_tables
from samples import LONG, NOT_ASCENDING, ODD_VALUES, R, T, not_orders, other_kinds, other_lengths

WRONG_TABLES = (T, R) + EDGE_TABLES + LARGE_TABLES


def some_orders(demands):
    """All orders of a few demands, and some of many."""
    if demands <= 4:
        return list(itertools.permutations(range(demands)))
    order = tuple(range(demands))
    return [order, order[::-1], order[1::2] + order[::2], order[demands // 2:] + order[:demands // 2]]


def conflict_pairs():
    """Orders with each of their conflicts."""
    for table in (T, R, (4, ((0, 1, 2), (0, 2, 3), (0, 1, 3))), plain.cycle(5)):
        for order in some_orders(table[0]):
            for conflict in plain.conflicts(table, order):
                yield table, order, conflict


class TestInterface(Case):
    def test_names_and_parameters(self):
        self.assert_interface(orders, {
            "simple_demands": ["table", "demands"],
            "is_nested_order": ["table", "value"],
            "find_conflict": ["table", "order"],
            "is_conflict": ["table", "order", "value"],
            "first_nested_order": ["table"],
            "sort_offers": ["table", "order"],
            "count_nested_orders": ["table"],
            "nested_order_at": ["table", "index"],
            "nested_order_index": ["table", "value"],
        })

    def test_arguments_stay(self):
        for table in (T, R) + EDGE_TABLES:
            for call in (first_nested_order, count_nested_orders):
                self.assert_leaves(call, table)
            for value in (*ODD_VALUES, tuple(range(table[0])), tuple(range(table[0]))[::-1], [0, 1, 2], 0, 1, LONG):
                for call in (simple_demands, is_nested_order, find_conflict, sort_offers, nested_order_at,
                             nested_order_index):
                    self.assert_leaves(call, table, value)
        for value in (*ODD_VALUES, (1, 0, 2, 0, 1), [1, 0, 2, 0, 1]):
            self.assert_leaves(is_conflict, T, (1, 0, 2), value)
            self.assert_leaves(is_conflict, T, value, (1, 0, 2, 0, 1))

    def test_largest_tables_are_quick(self):
        for table in LARGE_TABLES:
            for call in (first_nested_order, count_nested_orders):
                self.assert_quick(call, table)
            for call in (simple_demands, is_nested_order, find_conflict, sort_offers, nested_order_index):
                self.assert_quick(call, table, ALL)
                self.assert_quick(call, table, ALL[::-1])
            for index in (0, 100, 10 ** 6, math.factorial(MAX_DEMANDS) - 1):
                self.assert_quick(nested_order_at, table, index)
            self.assert_quick(is_conflict, table, ALL, (0, 1, 2, 0, 1))

    def test_somewhat_beyond_the_limits(self):
        table = (MAX_DEMANDS + 1, ((0, 1), (MAX_DEMANDS,)) * 6)
        order = tuple(range(MAX_DEMANDS + 1))
        self.assert_same(first_nested_order(table), order)
        self.assert_same(simple_demands(table, order), order)
        self.assert_same(count_nested_orders(table), math.factorial(MAX_DEMANDS + 1))
        self.assert_same(nested_order_index(table, order[::-1]), math.factorial(MAX_DEMANDS + 1) - 1)
        self.assert_same(sort_offers(table, order), (0, 2, 4, 6, 8, 10, 1, 3, 5, 7, 9, 11))
        self.assertIsNone(find_conflict(table, order))
        self.assert_not_orderable(first_nested_order, plain.cycle(MAX_DEMANDS + 1))


class TestSimpleDemands(Case):
    def test_ordinary(self):
        self.assert_same(simple_demands(T, (0, 1)), (0, 1))
        self.assert_same(simple_demands(T, (1,)), (1,))
        self.assert_same(simple_demands(R, (0, 2)), (0, 2))
        self.assert_same(simple_demands((4, ((0, 1), (0, 2), (0, 3))), (0, 1, 2, 3)), (1, 2, 3))
        self.assert_same(simple_demands((3, ((0, 1, 2), (1, 2), (1,))), (0, 1, 2)), (0, 1, 2))

    def test_demands_outside_the_set_do_not_count(self):
        table = (4, ((0, 1), (1, 2), (1, 3)))
        self.assert_same(simple_demands(table, (0, 1, 2)), (0, 2))
        self.assert_same(simple_demands(table, (1, 3)), (1, 3))

    def test_by_definition(self):
        for table in compared_tables():
            for demands in plain.subsets(range(table[0])):
                if demands:
                    expected = tuple([demand for demand in demands if plain.is_simple(table, demand, demands)])
                    self.assert_same(simple_demands(table, demands), expected)

    def test_largest_by_definition(self):
        for table in LARGE_TABLES:
            for demands in (ALL, ALL[3:], ALL[::2], ALL[:1], ALL[-2:]):
                expected = tuple([demand for demand in demands if plain.is_simple(table, demand, demands)])
                self.assert_same(simple_demands(table, demands), expected)

    def test_no_demands(self):
        for table in WRONG_TABLES:
            many = table[0]
            wrong = ODD_VALUES + NOT_ASCENDING + ((), 0, 1, (many,), (0, many), tuple(range(many + 1)))
            for demands in wrong + tuple(other_kinds(tuple(range(many)))):
                self.assert_raises(NoDemands, {}, simple_demands, table, demands)


class TestIsNestedOrder(Case):
    def test_by_definition(self):
        for table in compared_tables():
            for order in itertools.permutations(range(table[0])):
                self.assertIs(is_nested_order(table, order), plain.is_nested(table, order))

    def test_largest(self):
        for table in FREE_TABLES:
            for order in some_orders(MAX_DEMANDS):
                self.assertIs(is_nested_order(table, order), True)
        for table in ORDERABLE_TABLES + RING_TABLES:
            for order in some_orders(MAX_DEMANDS):
                self.assertIs(is_nested_order(table, order), plain.is_nested(table, order))
        for table in RING_TABLES:
            self.assertIs(is_nested_order(table, ALL), False)

    def test_other_values(self):
        for table in WRONG_TABLES:
            for value in not_orders(table[0]):
                self.assert_rejects(is_nested_order, table, value)


class TestFindConflict(Case):
    def test_by_definition(self):
        for table in compared_tables():
            for order in itertools.permutations(range(table[0])):
                self.check(table, order)

    def test_largest(self):
        for table in LARGE_TABLES:
            for order in some_orders(MAX_DEMANDS):
                self.check(table, order)

    def check(self, table, order):
        found = find_conflict(table, order)
        if plain.is_nested(table, order):
            self.assertIsNone(found)
            return
        self.assertIs(type(found), tuple)
        self.assertEqual([type(number) for number in found], [int] * 5)
        k, i, j, a, b = found
        self.assertLess(order.index(k), min(order.index(i), order.index(j)))
        first, second = table[1][a], table[1][b]
        self.assertEqual([k in first, i in first, j in first], [True, True, False])
        self.assertEqual([k in second, i in second, j in second], [True, False, True])
        self.assertIs(is_conflict(table, order, found), True)

    def test_no_order(self):
        for table in WRONG_TABLES:
            for order in not_orders(table[0]):
                self.assert_raises(NoOrder, {}, find_conflict, table, order)


class TestIsConflict(Case):
    def test_ordinary(self):
        self.assertIs(is_conflict(T, (1, 0, 2), (1, 2, 0, 1, 0)), True)
        self.assertIs(is_conflict(T, (1, 2, 0), (1, 0, 2, 0, 1)), True)
        for value in ((1, 0, 2, 1, 0), (1, 2, 0, 0, 1), (0, 1, 2, 0, 1), (1, 0, 2, 0, 0), (1, 0, 0, 0, 1),
                      (1, 1, 2, 0, 1), (1, 0, 1, 0, 1), (0, 0, 2, 0, 1)):
            self.assert_rejects(is_conflict, T, (1, 0, 2), value)
        self.assert_rejects(is_conflict, T, (0, 1, 2), (1, 2, 0, 1, 0))
        self.assert_rejects(is_conflict, T, (2, 1, 0), (1, 0, 2, 0, 1))

    def test_by_definition(self):
        for table in (T, R, (3, ((0, 1), (1, 2), (0, 1, 2))), (3, ((0,), (1, 2), (1, 2), ())),
                      (3, ((), (2,), (), (0, 1), (1, 2)))):
            numbers = range(-1, max(table[0], len(table[1])) + 1)
            for order in itertools.permutations(range(table[0])):
                expected = plain.conflicts(table, order)
                for value in itertools.product(numbers, repeat=5):
                    self.assertIs(is_conflict(table, order, value), value in expected)

    def test_all_conflicts(self):
        for table, order, conflict in conflict_pairs():
            self.assertIs(is_conflict(table, order, conflict), True)

    def test_other_values(self):
        for table, order, conflict in itertools.islice(conflict_pairs(), 0, None, 7):
            for value in other_kinds(conflict) + other_lengths(conflict):
                self.assert_rejects(is_conflict, table, order, value)
        for table in WRONG_TABLES:
            many = len(table[1])
            for value in (*ODD_VALUES, *NOT_ASCENDING, 0, (), (0, 0, 0, 0, 0), (0, 1, 2, many, many), (0, 1, 2, -1, -2),
                          (-1, -2, -3, 0, 1), (False, True, 2, 0, 1), (table[0], 0, 1, 0, 1)):
                self.assert_rejects(is_conflict, table, tuple(range(table[0])), value)

    def test_no_order(self):
        for table in WRONG_TABLES:
            for order in not_orders(table[0]):
                self.assert_raises(NoOrder, {}, is_conflict, table, order, (1, 0, 2, 0, 1))

    def test_no_order_whatever_the_value(self):
        for value in ODD_VALUES:
            self.assert_raises(NoOrder, {}, is_conflict, T, (0, 1), value)
            self.assert_raises(NoOrder, {}, is_conflict, T, value, value)


class TestNestedOrders(Case):
    def test_by_plain_search(self):
        for table in compared_tables():
            expected = plain.nested_orders(table)
            self.assert_same(count_nested_orders(table), len(expected))
            if expected:
                self.assert_same(first_nested_order(table), expected[0])
            else:
                self.assert_not_orderable(first_nested_order, table)
            for index, order in enumerate(expected):
                self.assert_same(nested_order_at(table, index), order)
                self.assert_same(nested_order_index(table, order), index)

    def test_edges(self):
        for table in EDGE_TABLES:
            order = tuple(range(table[0]))
            self.assert_same(first_nested_order(table), order)
            self.assert_same(nested_order_at(table, 0), order)
            self.assert_same(nested_order_index(table, order), 0)
        self.assert_same(count_nested_orders((1, ())), 1)
        self.assert_same(count_nested_orders((2, ((0, 1), (0, 1)))), 2)

    def test_every_order_is_nested(self):
        many = math.factorial(MAX_DEMANDS)
        for table in FREE_TABLES:
            self.assert_same(count_nested_orders(table), many)
            self.assert_same(first_nested_order(table), ALL)
            self.assert_same(nested_order_at(table, many - 1), ALL[::-1])
            self.assert_same(nested_order_index(table, ALL[::-1]), many - 1)
            self.assert_same(nested_order_at(table, 1), ALL[:-2] + (ALL[-1], ALL[-2]))
            self.assert_same(nested_order_index(table, ALL[1:] + ALL[:1]), 409113)
            self.assert_raises(NoIndex, {"index": many}, nested_order_at, table, many)

    def test_largest_orderable(self):
        for table in ORDERABLE_TABLES:
            many = count_nested_orders(table)
            first = first_nested_order(table)
            self.assertTrue(plain.is_nested(table, first))
            self.assert_same(nested_order_at(table, 0), first)
            indexes = sorted({0, 1, 2, many // 3, many // 2, many - 2, many - 1})
            found = [nested_order_at(table, index) for index in indexes]
            self.assertEqual(found, sorted(set(found)))
            for index, order in zip(indexes, found):
                self.assertTrue(plain.is_nested(table, order))
                self.assert_same(nested_order_index(table, order), index)

    def test_known_counts(self):
        # In a path the rest must stay connected to have a simple end: each step takes one of two ends.
        path = (MAX_DEMANDS, tuple([(at, at + 1) for at in range(MAX_DEMANDS - 1)]) + (ALL,))
        self.assert_same(count_nested_orders(path), 2 ** 9)
        self.assert_same(nested_order_at(path, 2 ** 9 - 1), ALL[::-1])
        # The middle of a star is simple as soon as at most one of its nine tips is left.
        star = (MAX_DEMANDS, tuple([(0, at) for at in range(1, MAX_DEMANDS)]))
        self.assert_same(count_nested_orders(star), 2 * math.factorial(9))

    def test_not_orderable(self):
        for table in (R, *RING_TABLES, plain.cycle(4), plain.cycle(7)):
            self.assert_same(count_nested_orders(table), 0)
            self.assert_not_orderable(first_nested_order, table)
            for value in (0, 1, -1, *ODD_VALUES, tuple(range(table[0]))):
                self.assert_not_orderable(nested_order_at, table, value)
                self.assert_not_orderable(nested_order_index, table, value)

    def test_no_index(self):
        for table in (T, *EDGE_TABLES, FREE_TABLES[0], ORDERABLE_TABLES[1]):
            many = count_nested_orders(table)
            for index in (*ODD_VALUES, *NOT_ASCENDING, (), (0,), -1, -many, many, many + 1, LONG, -LONG):
                self.assert_raises(NoIndex, {"index": index}, nested_order_at, table, index)

    def test_no_nested_order(self):
        for table in (T, *EDGE_TABLES, *FREE_TABLES, *ORDERABLE_TABLES):
            for value in not_orders(table[0]):
                self.assert_raises(NoOrder, {}, nested_order_index, table, value)

    def test_orders_that_are_not_nested_have_no_index(self):
        for table in plain.four_tables():
            expected = plain.nested_orders(table)
            if expected:
                for order in itertools.permutations(range(4)):
                    if order not in expected:
                        self.assert_raises(NoOrder, {}, nested_order_index, table, order)


class TestSortOffers(Case):
    def test_ordinary(self):
        self.assert_same(sort_offers(R, (0, 1, 2)), (0, 2, 1))
        self.assert_same(sort_offers(R, (1, 2, 0)), (1, 0, 2))
        self.assert_same(sort_offers((3, ((2,), (0, 1), (), (1,), (0, 1, 2))), (0, 1, 2)), (2, 3, 1, 0, 4))

    def test_equal_offers(self):
        self.assert_same(sort_offers((2, ((0, 1), (), (0, 1), (), (1,))), (1, 0)), (1, 3, 4, 0, 2))
        for table in FREE_TABLES[:3]:
            self.assert_same(sort_offers(table, ALL[::-1]), tuple(range(len(table[1]))))

    def test_the_order_need_not_be_nested(self):
        self.assert_same(sort_offers(T, (1, 0, 2)), (0, 1))
        self.assert_same(sort_offers(T, (1, 2, 0)), (1, 0))

    def test_by_definition(self):
        for table in compared_tables():
            for order in some_orders(table[0]):
                self.assert_same(sort_offers(table, order), plain.sorted_offers(table, order))

    def test_largest(self):
        for table in LARGE_TABLES:
            for order in some_orders(MAX_DEMANDS):
                self.assert_same(sort_offers(table, order), plain.sorted_offers(table, order))

    def test_no_order(self):
        for table in WRONG_TABLES:
            for order in not_orders(table[0]):
                self.assert_raises(NoOrder, {}, sort_offers, table, order)


if __name__ == "__main__":
    unittest.main()
