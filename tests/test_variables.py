"""Points 43 to 45: one amount as a variable."""

import itertools
import unittest

import plain
from cases import Case
from payorder import variables
from payorder.errors import NoDemand, NoOffer
from payorder.limits import MAX_AMOUNT, MAX_DEMANDS, MAX_OFFERS
from payorder.payments import cheapest_cost
from payorder.variables import cost_by_penalty, cost_by_price
from plain import EDGE_TABLES, LARGE_TABLES, RING_TABLES, compared_tables, data_for, edge_cases
from samples import LONG, NOT_ASCENDING, ODD_VALUES, R, T

DATA = ((3, 4), (5, 1, 2))
NOT_NUMBERS = ODD_VALUES + NOT_ASCENDING + ((), (0,), (1,), (0, 1), -1, -2, LONG, -LONG)


def put(row, at, amount):
    return row[:at] + (amount,) + row[at + 1:]


def costs(table, prices, penalties, choices):
    return [plain.cost(table, prices, penalties, choice) for choice in choices]


def some_cases():
    """Tables of a few demands, orderable and not, with amounts that are small and often equal."""
    tables = list(itertools.islice(compared_tables(), 0, None, 4)) + [T, R, *EDGE_TABLES]
    return data_for(tables, 1) + data_for(tables, 6)


def amounts_to_try(base, limit):
    """Amounts at which min(base + x, limit) changes, and others."""
    turn = 3 if limit is None else limit - base
    return [x for x in (0, 1, turn - 1, turn, turn + 1, MAX_AMOUNT - 1, MAX_AMOUNT) if 0 <= x <= MAX_AMOUNT]


class TestInterface(Case):
    def test_names_and_parameters(self):
        self.assert_interface(variables, {
            "cost_by_price": ["table", "prices", "penalties", "offer"],
            "cost_by_penalty": ["table", "prices", "penalties", "demand"],
        })

    def test_arguments_stay(self):
        for table, prices, penalties in data_for((T, R) + EDGE_TABLES + LARGE_TABLES[::3], 9):
            for value in (*ODD_VALUES, 0, 1, LONG):
                self.assert_leaves(cost_by_price, table, prices, penalties, value)
                self.assert_leaves(cost_by_penalty, table, prices, penalties, value)

    def test_largest_tables_are_quick(self):
        for table, prices, penalties in data_for(LARGE_TABLES + tuple(plain.random_tables(20, 10, 10)), MAX_AMOUNT):
            for number in (0, 9):
                self.assert_quick(cost_by_price, table, prices, penalties, number)
                self.assert_quick(cost_by_penalty, table, prices, penalties, number)

    def test_somewhat_beyond_the_limits(self):
        many, great = MAX_DEMANDS + 1, MAX_AMOUNT + 1
        table = plain.cycle(many)
        data = ((great,) * many, (great,) * many)
        self.assert_same(cost_by_price(table, *data, 10), (5 * great, 6 * great))
        self.assert_same(cost_by_penalty(table, *data, 10), (5 * great, 6 * great))


class TestCostByPrice(Case):
    def test_by_definition(self):
        for table, prices, penalties in some_cases():
            for offer in range(len(table[1])):
                self.check(table, prices, penalties, offer)

    def test_edges(self):
        for table, prices, penalties in edge_cases():
            for offer in range(0, len(table[1]), 5):
                self.check(table, prices, penalties, offer)

    def test_largest(self):
        for table, prices, penalties in data_for(LARGE_TABLES, MAX_AMOUNT) + data_for(RING_TABLES, 5):
            for offer in range(0, len(table[1]), 3):
                self.check(table, prices, penalties, offer)

    def check(self, table, prices, penalties, offer):
        choices = plain.subsets(range(len(table[1])))
        limit = min(costs(table, prices, penalties, [choice for choice in choices if offer not in choice]))
        base = min(costs(table, put(prices, offer, 0), penalties, choices))
        self.assert_same(cost_by_price(table, prices, penalties, offer), (base, limit))
        self.assertGreaterEqual(limit, base)
        for x in amounts_to_try(base, limit):
            replaced = put(prices, offer, x)
            self.assertEqual(cheapest_cost(table, replaced, penalties), min(base + x, limit))
            self.assert_same(cost_by_price(table, replaced, penalties, offer), (base, limit))

    def test_by_plain_search(self):
        for table, prices, penalties in some_cases()[::7]:
            for offer in range(len(table[1])):
                base, limit = cost_by_price(table, prices, penalties, offer)
                for x in amounts_to_try(base, limit):
                    lowest = plain.lowest_cost(table, put(prices, offer, x), penalties)
                    self.assertEqual(lowest, min(base + x, limit))

    def test_a_useless_offer(self):
        self.assert_same(cost_by_price((1, ((),)), (5,), (7,), 0), (7, 7))
        self.assert_same(cost_by_price((1, ((0,), (0,))), (5, 0), (7,), 0), (0, 0))
        self.assert_same(cost_by_price((1, ((0,), (0,))), (5, 3), (7,), 0), (0, 3))

    def test_greatest_amounts(self):
        table = (MAX_DEMANDS, (tuple(range(MAX_DEMANDS)),))
        self.assert_same(cost_by_price(table, (3,), (MAX_AMOUNT,) * MAX_DEMANDS, 0), (0, 10 * MAX_AMOUNT))

    def test_no_offer(self):
        for table, prices, penalties in data_for((T, R) + EDGE_TABLES + LARGE_TABLES, 9):
            for offer in (*NOT_NUMBERS, len(table[1]), MAX_OFFERS):
                self.assert_raises(NoOffer, {"offer": offer}, cost_by_price, table, prices, penalties, offer)
        for offer in (0, 1):
            self.assert_raises(NoOffer, {"offer": offer}, cost_by_price, (2, ()), (), (1, 1), offer)


class TestCostByPenalty(Case):
    def test_by_definition(self):
        for table, prices, penalties in some_cases():
            for demand in range(table[0]):
                self.check(table, prices, penalties, demand)

    def test_edges(self):
        for table, prices, penalties in edge_cases():
            for demand in range(0, table[0], 5):
                self.check(table, prices, penalties, demand)

    def test_largest(self):
        for table, prices, penalties in data_for(LARGE_TABLES, MAX_AMOUNT) + data_for(RING_TABLES, 5):
            for demand in range(0, table[0], 3):
                self.check(table, prices, penalties, demand)

    def check(self, table, prices, penalties, demand):
        choices = plain.subsets(range(len(table[1])))
        covering = [choice for choice in choices if any(demand in table[1][offer] for offer in choice)]
        limit = min(costs(table, prices, penalties, covering), default=None)
        base = min(costs(table, prices, put(penalties, demand, 0), choices))
        self.assert_same(cost_by_penalty(table, prices, penalties, demand), (base, limit))
        for x in amounts_to_try(base, limit):
            replaced = put(penalties, demand, x)
            expected = base + x if limit is None else min(base + x, limit)
            self.assertEqual(cheapest_cost(table, prices, replaced), expected)
            self.assert_same(cost_by_penalty(table, prices, replaced, demand), (base, limit))

    def test_by_plain_search(self):
        for table, prices, penalties in some_cases()[::7]:
            for demand in range(table[0]):
                base, limit = cost_by_penalty(table, prices, penalties, demand)
                for x in amounts_to_try(base, limit):
                    lowest = plain.lowest_cost(table, prices, put(penalties, demand, x))
                    self.assertEqual(lowest, base + x if limit is None else min(base + x, limit))

    def test_a_demand_that_no_offer_covers(self):
        self.assert_same(cost_by_penalty((2, ((), (0,))), (0, 3), (9, 9), 1), (3, None))
        self.assert_same(cost_by_penalty((MAX_DEMANDS, ()), (), (MAX_AMOUNT,) * MAX_DEMANDS, 9), (9 * MAX_AMOUNT, None))

    def test_limit_zero_is_not_none(self):
        self.assert_same(cost_by_penalty((1, ((0,),)), (0,), (9,), 0), (0, 0))

    def test_no_demand(self):
        for table, prices, penalties in data_for((T, R) + EDGE_TABLES + LARGE_TABLES, 9):
            for demand in (*NOT_NUMBERS, table[0], MAX_DEMANDS):
                self.assert_raises(NoDemand, {"demand": demand}, cost_by_penalty, table, prices, penalties, demand)


if __name__ == "__main__":
    unittest.main()
