"""Points 27 to 34: choices and payments."""

import itertools
import unittest

import plain
from cases import Case
from payorder import payments
from payorder.errors import NoChoice, NoOrder
from payorder.limits import MAX_AMOUNT, MAX_DEMANDS, MAX_OFFERS
from payorder.orders import first_nested_order, nested_order_at
from payorder.payments import (
    cheapest_cost, choice_cost, choose_full, is_collection, is_solution, pay_along, solve,
)
from plain import (
    ALL, EDGE_TABLES, FREE_TABLES, LARGE_TABLES, ORDERABLE_TABLES, RING_TABLES, compared_tables, data_for, edge_cases,
)
from samples import LONG, NOT_ASCENDING, ODD_VALUES, R, T, not_orders, other_kinds, other_lengths

DATA = ((3, 4), (5, 1, 2))


class TestInterface(Case):
    def test_names_and_parameters(self):
        data = ["table", "prices", "penalties"]
        self.assert_interface(payments, {
            "choice_cost": data + ["choice"],
            "cheapest_cost": data,
            "is_collection": data + ["value"],
            "pay_along": data + ["order"],
            "choose_full": data + ["order"],
            "solve": data,
            "is_solution": data + ["value"],
        })

    def test_arguments_stay(self):
        for table, prices, penalties in data_for((T, R) + EDGE_TABLES + LARGE_TABLES[::4], 5):
            self.assert_leaves(cheapest_cost, table, prices, penalties)
            self.assert_leaves(solve, table, prices, penalties)
            for value in (*ODD_VALUES, tuple(range(table[0])), (0,), (), (5, (0,), (2, 1, 2)), [5, [0], [2, 1, 2]]):
                for call in (choice_cost, is_collection, pay_along, choose_full, is_solution):
                    self.assert_leaves(call, table, prices, penalties, value)

    def test_largest_tables_are_quick(self):
        tables = LARGE_TABLES + tuple(plain.random_tables(20, 10, 10))
        for table, prices, penalties in data_for(tables, MAX_AMOUNT):
            self.assert_quick(cheapest_cost, table, prices, penalties)
            self.assert_quick(solve, table, prices, penalties)
            choice = tuple(range(len(table[1])))
            self.assert_quick(choice_cost, table, prices, penalties, choice)
            self.assert_quick(is_collection, table, prices, penalties, (0,) * MAX_DEMANDS)
            self.assert_quick(is_solution, table, prices, penalties, (0, choice, (0,) * MAX_DEMANDS))
            for call in (pay_along, choose_full):
                self.assert_quick(call, table, prices, penalties, ALL)

    def test_somewhat_beyond_the_limits(self):
        table, great = plain.cycle(MAX_DEMANDS + 1), MAX_AMOUNT + 1
        many = MAX_DEMANDS + 1
        self.assert_same(cheapest_cost(table, (great,) * many, (great,) * many), 6 * great)
        self.assert_same(cheapest_cost(table, (great * 3,) * many, (great,) * many), many * great)
        self.assert_same(solve((many, table[1][:-1]), (great,) * (many - 1), (great,) * many)[0], 6 * great)


class TestChoiceCost(Case):
    def test_ordinary(self):
        self.assert_same([choice_cost(T, *DATA, choice) for choice in ((), (0,), (1,), (0, 1))], [8, 5, 9, 7])

    def test_by_definition(self):
        for table, prices, penalties in data_for(compared_tables(), 9):
            for choice in plain.subsets(range(len(table[1]))):
                expected = plain.cost(table, prices, penalties, choice)
                self.assert_same(choice_cost(table, prices, penalties, choice), expected)

    def test_edges(self):
        for table, prices, penalties in edge_cases():
            for choice in (range(len(table[1])), (), range(0, len(table[1]), 2)):
                expected = plain.cost(table, prices, penalties, choice)
                self.assert_same(choice_cost(table, prices, penalties, tuple(choice)), expected)

    def test_greatest_amounts(self):
        table = (MAX_DEMANDS, ((),) * MAX_OFFERS)
        data = ((MAX_AMOUNT,) * MAX_OFFERS, (MAX_AMOUNT,) * MAX_DEMANDS)
        self.assert_same(choice_cost(table, *data, tuple(range(MAX_OFFERS))), 20 * MAX_AMOUNT)

    def test_no_choice(self):
        for table, prices, penalties in data_for((T, R) + EDGE_TABLES + LARGE_TABLES, 9):
            many = len(table[1])
            wrong = [*ODD_VALUES, *NOT_ASCENDING, 0, 1, (many,), (-1,), (0, many), tuple(range(many + 1))]
            for choice in wrong + other_kinds(tuple(range(many))):
                self.assert_raises(NoChoice, {}, choice_cost, table, prices, penalties, choice)


class TestCheapestCost(Case):
    def test_by_plain_search(self):
        for table, prices, penalties in data_for(compared_tables(), 6):
            self.assert_same(cheapest_cost(table, prices, penalties), plain.lowest_cost(table, prices, penalties))

    def test_edges(self):
        for table, prices, penalties in edge_cases():
            self.assert_same(cheapest_cost(table, prices, penalties), plain.lowest_cost(table, prices, penalties))

    def test_largest(self):
        tables = LARGE_TABLES + tuple(plain.random_tables(10, 10, 10))
        for table, prices, penalties in data_for(tables, 40) + data_for(tables, MAX_AMOUNT):
            self.assert_same(cheapest_cost(table, prices, penalties), plain.lowest_cost(table, prices, penalties))

    def test_without_offers(self):
        self.assert_same(cheapest_cost((1, ()), (), (7,)), 7)
        self.assert_same(cheapest_cost((MAX_DEMANDS, ()), (), (MAX_AMOUNT,) * MAX_DEMANDS), 10 * MAX_AMOUNT)

    def test_equal_offers(self):
        self.assert_same(cheapest_cost((1, ((0,), (0,), (0,))), (5, 3, 4), (9,)), 3)


class TestIsCollection(Case):
    def test_by_definition(self):
        tables = [T, R, (1, ()), (1, ((),)), (1, ((0,), (0,))), (2, ((0, 1), ())), (3, ((0, 1, 2), (1,)))]
        for table, prices, penalties in data_for(tables * 4, 4):
            for value in itertools.product(range(-1, 6), repeat=table[0]):
                expected = plain.is_collection(table, prices, penalties, value)
                self.assertIs(is_collection(table, prices, penalties, value), expected)

    def test_bounds(self):
        for table, prices, penalties in edge_cases():
            zeros = (0,) * table[0]
            self.assertIs(is_collection(table, prices, penalties, zeros), True)
            for demand in range(table[0]):
                found = pay_along(table, prices, penalties, (demand, *[d for d in range(table[0]) if d != demand]))
                self.assertIs(is_collection(table, prices, penalties, found), True)
                more = found[:demand] + (found[demand] + 1,) + found[demand + 1:]
                self.assert_rejects(is_collection, table, prices, penalties, more)
                below = zeros[:demand] + (-1,) + zeros[demand + 1:]
                self.assert_rejects(is_collection, table, prices, penalties, below)

    def test_greatest_amounts(self):
        table = (2, ((0, 1),))
        for value, expected in (((MAX_AMOUNT, 0), True), ((MAX_AMOUNT - 1, 1), True), ((MAX_AMOUNT, 1), False),
                                ((MAX_AMOUNT + 1, 0), False), ((MAX_AMOUNT + 1, -1), False), ((0, LONG), False)):
            self.assertIs(is_collection(table, (MAX_AMOUNT,), (MAX_AMOUNT,) * 2, value), expected)

    def test_other_values(self):
        for table, prices, penalties in data_for((T, R) + EDGE_TABLES + LARGE_TABLES, 5):
            right = (0,) * table[0]
            self.assertIs(is_collection(table, prices, penalties, right), True)
            for value in [*ODD_VALUES, 0, 1, (), *other_kinds(right), *other_lengths(right)]:
                self.assert_rejects(is_collection, table, prices, penalties, value)

    def test_truth_values_in_place_of_payments(self):
        for value in ((True, 0, 1), (1, False, 1), (1, 0, True), (False, False, False)):
            self.assert_rejects(is_collection, T, *DATA, value)


class TestPayAlong(Case):
    def test_by_definition(self):
        for table, prices, penalties in data_for(itertools.islice(compared_tables(), 0, None, 3), 6):
            for order in itertools.permutations(range(table[0])):
                expected = plain.payments_along(table, prices, penalties, order)
                self.assert_same(pay_along(table, prices, penalties, order), expected)

    def test_largest_by_definition(self):
        for table, prices, penalties in data_for(LARGE_TABLES, 20):
            for order in (ALL, ALL[::-1], ALL[5:] + ALL[:5]):
                expected = plain.payments_along(table, prices, penalties, order)
                self.assert_same(pay_along(table, prices, penalties, order), expected)

    def test_each_pays_the_most(self):
        for table, prices, penalties in edge_cases():
            order = tuple(range(table[0]))[::-1]
            found = pay_along(table, prices, penalties, order)
            self.assertTrue(plain.is_collection(table, prices, penalties, found))
            for at, demand in enumerate(order):
                sooner = [found[d] if d in order[:at] else 0 for d in range(table[0])]
                sooner[demand] = found[demand] + 1
                self.assertFalse(plain.is_collection(table, prices, penalties, sooner))

    def test_not_covered(self):
        self.assert_same(pay_along((2, ((), (0,))), (0, 3), (9, 9), (1, 0)), (3, 9))
        self.assert_same(pay_along((1, ()), (), (MAX_AMOUNT,), (0,)), (MAX_AMOUNT,))

    def test_no_order(self):
        for table, prices, penalties in data_for((T, R) + EDGE_TABLES + LARGE_TABLES, 9):
            for order in not_orders(table[0]):
                self.assert_raises(NoOrder, {}, pay_along, table, prices, penalties, order)


class TestNestedPayments(Case):
    """Guarantee (b): along a nested order, the payments and the second pass reach the lowest cost."""

    def test_every_nested_order(self):
        for table, prices, penalties in data_for(compared_tables(), 6):
            lowest = plain.lowest_cost(table, prices, penalties)
            for order in plain.nested_orders(table):
                self.check(table, prices, penalties, order, lowest)

    def test_edges(self):
        for table, prices, penalties in edge_cases():
            if table == R or table in RING_TABLES:
                continue
            lowest = plain.lowest_cost(table, prices, penalties)
            self.check(table, prices, penalties, first_nested_order(table), lowest)

    def test_largest(self):
        for greatest in (1, 30, MAX_AMOUNT):
            for table, prices, penalties in data_for(FREE_TABLES + ORDERABLE_TABLES, greatest):
                lowest = plain.lowest_cost(table, prices, penalties)
                for index in (0, 1, 50, 511):
                    self.check(table, prices, penalties, nested_order_at(table, index), lowest)

    def check(self, table, prices, penalties, order, lowest):
        paid = pay_along(table, prices, penalties, order)
        self.assertEqual(sum(paid), lowest)
        choice = choose_full(table, prices, penalties, order)
        self.assert_same(choice, second_pass(table, prices, paid, order))
        self.assertEqual(plain.cost(table, prices, penalties, choice), lowest)


def second_pass(table, prices, paid, order):
    """The second pass, word for word."""
    taken = []
    for number in plain.sorted_offers(table, order)[::-1]:
        offer = table[1][number]
        full = sum(paid[demand] for demand in offer) == prices[number]
        if full and not any(paid[demand] and demand in table[1][sooner] for sooner in taken for demand in offer):
            taken.append(number)
    return tuple(sorted(taken))


class TestChooseFull(Case):
    def test_ordinary(self):
        self.assert_same(choose_full(T, (3, 2), (5, 1, 2), (0, 1, 2)), (0, 1))
        self.assert_same(choose_full(T, (9, 9), (5, 1, 2), (0, 1, 2)), ())
        self.assert_same(choose_full(T, (2, 2), (0, 2, 0), (0, 1, 2)), (1,))
        self.assert_same(choose_full(T, (2, 2), (0, 2, 0), (2, 1, 0)), (0,))

    def test_offers_without_a_price(self):
        self.assert_same(choose_full(T, (0, 0), (5, 1, 2), (0, 1, 2)), (0, 1))
        self.assert_same(choose_full((2, ((), (), (0, 1))), (0, 1, 0), (0, 0), (0, 1)), (0, 2))
        self.assert_same(choose_full((1, ()), (), (4,), (0,)), ())

    def test_equal_offers(self):
        self.assert_same(choose_full((1, ((0,), (0,))), (3, 3), (5,), (0,)), (1,))
        self.assert_same(choose_full((1, ((0,), (0,))), (3, 4), (5,), (0,)), (0,))

    def test_no_order(self):
        for table, prices, penalties in data_for((T, R) + EDGE_TABLES + LARGE_TABLES, 9):
            for order in not_orders(table[0]):
                self.assert_raises(NoOrder, {}, choose_full, table, prices, penalties, order)

    def test_not_nested(self):
        for table, prices, penalties in data_for(plain.four_tables(), 5):
            for order in itertools.permutations(range(4)):
                if not plain.is_nested(table, order):
                    with self.assertRaises(NoOrder):
                        choose_full(table, prices, penalties, order)
        for table, prices, penalties in data_for(RING_TABLES, 5):
            self.assert_raises(NoOrder, {}, choose_full, table, prices, penalties, ALL)


class TestSolve(Case):
    def test_by_plain_search(self):
        for table, prices, penalties in data_for(compared_tables(), 6):
            if plain.nested_orders(table):
                self.check(table, prices, penalties)
            else:
                self.assert_not_orderable(solve, table, prices, penalties)

    def test_edges(self):
        for table, prices, penalties in edge_cases():
            if table == R or table in RING_TABLES:
                self.assert_not_orderable(solve, table, prices, penalties)
            else:
                self.check(table, prices, penalties)

    def test_largest(self):
        for greatest in (1, 30, MAX_AMOUNT):
            for table, prices, penalties in data_for(FREE_TABLES + ORDERABLE_TABLES, greatest):
                self.check(table, prices, penalties)

    def check(self, table, prices, penalties):
        found = solve(table, prices, penalties)
        self.assertIs(type(found), tuple)
        cost, choice, collection = found
        self.assert_same(cost, plain.lowest_cost(table, prices, penalties))
        self.assertIn(choice, plain.subsets(range(len(table[1]))))
        self.assertEqual(plain.cost(table, prices, penalties, choice), cost)
        self.assertEqual([type(payment) for payment in collection], [int] * table[0])
        self.assertTrue(plain.is_collection(table, prices, penalties, collection))
        self.assertEqual(sum(collection), cost)
        self.assertIs(is_solution(table, prices, penalties, found), True)


class TestIsSolution(Case):
    def test_by_definition(self):
        for table, prices, penalties in data_for([T, R, (1, ()), (1, ((0,), ())), (2, ((0, 1), (1,)))] * 3, 3):
            for choice in plain.subsets(range(len(table[1]))):
                for paid in itertools.product(range(-1, 4), repeat=table[0]):
                    for cost in range(-1, 8):
                        right = plain.cost(table, prices, penalties, choice) == cost == sum(paid)
                        expected = right and plain.is_collection(table, prices, penalties, paid)
                        self.assertIs(is_solution(table, prices, penalties, (cost, choice, paid)), expected)

    def test_a_table_with_a_ring(self):
        self.assertIs(is_solution(R, (2, 2, 2), (1, 1, 1), (3, (), (1, 1, 1))), True)
        self.assertIs(is_solution(R, (1, 1, 1), (1, 1, 0), (1, (0,), (1, 0, 0))), True)
        self.assert_rejects(is_solution, R, (1, 1, 1), (1, 1, 1), (2, (0, 1), (1, 0, 0)))

    def test_any_cheapest_choice(self):
        for choice in ((0,), (1,)):
            self.assertIs(is_solution((1, ((0,), (0,))), (3, 3), (5,), (3, choice, (3,))), True)
        self.assert_rejects(is_solution, (1, ((0,), (0,))), (3, 3), (5,), (3, (0, 1), (3,)))
        self.assert_rejects(is_solution, (1, ((0,), (0,))), (3, 3), (5,), (6, (0, 1), (3,)))

    def test_cost_is_an_integer(self):
        table, data = (1, ((0,),)), ((1,), (1,))
        self.assertIs(is_solution(table, *data, (1, (0,), (1,))), True)
        for value in ((True, (0,), (1,)), (1, (False,), (1,)), (1, (0,), (True,)), ("1", (0,), (1,)), (None, (0,), (1,))):
            self.assert_rejects(is_solution, table, *data, value)
        self.assertIs(is_solution(table, (0,), (0,), (0, (), (0,))), True)
        for value in ((False, (), (0,)), (0, (), (False,)), (None, (), (0,)), ((), (), (0,))):
            self.assert_rejects(is_solution, table, (0,), (0,), value)

    def test_wrong_choices(self):
        for choice in [*ODD_VALUES, *NOT_ASCENDING, 0, (2,), (0, 2), *other_kinds((0,))]:
            self.assert_rejects(is_solution, T, *DATA, (5, choice, (3, 0, 2)))

    def test_wrong_collections(self):
        for paid in [*ODD_VALUES, (), 5, (5,), (3, 2), (3, 0, 2, 0), (4, -1, 2), (3, 0, 1), (5, 0, 0), [3, 0, 2], (3, 1, 1)]:
            self.assert_rejects(is_solution, T, *DATA, (5, (0,), paid))

    def test_other_values(self):
        for table, prices, penalties in data_for((T,) + EDGE_TABLES + FREE_TABLES + ORDERABLE_TABLES, 5):
            found = solve(table, prices, penalties)
            for value in [*other_kinds(found), *other_lengths(found), found[::-1], (found[0], found[2], found[1], 0)]:
                self.assert_rejects(is_solution, table, prices, penalties, value)
            for value in (*ODD_VALUES, *NOT_ASCENDING, 0, (), (found[0] + 1, *found[1:]), (found[0] - 1, *found[1:])):
                self.assert_rejects(is_solution, table, prices, penalties, value)


if __name__ == "__main__":
    unittest.main()
