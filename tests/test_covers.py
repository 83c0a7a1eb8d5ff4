"""Points 38 to 42: covering all demands."""

import itertools
import unittest

import plain
from cases import Case
from payorder import covers
from payorder.covers import are_separate, cheapest_cover_cost, is_cover, smallest_cover
from payorder.errors import NotCovered, NotOrderable
from payorder.limits import MAX_AMOUNT, MAX_DEMANDS, MAX_OFFERS
from payorder.rings import is_ring
from plain import (
    ALL, EDGE_TABLES, FREE_TABLES, LARGE_TABLES, ORDERABLE_TABLES, RING_TABLES, compared_tables, data_for, edge_cases,
)
from samples import LONG, NOT_ASCENDING, ODD_VALUES, R, T, other_kinds, other_lengths

# Demand 3 is in no offer, and the others are in a ring.
OPEN_RING = (4, ((0, 1), (1, 2), (0, 2)))


def some_tables():
    """The tables of a few demands, and the largest ones."""
    return itertools.chain(compared_tables(), LARGE_TABLES)


class TestInterface(Case):
    def test_names_and_parameters(self):
        self.assert_interface(covers, {
            "is_cover": ["table", "value"],
            "are_separate": ["table", "value"],
            "smallest_cover": ["table"],
            "cheapest_cover_cost": ["table", "prices"],
        })

    def test_arguments_stay(self):
        for table, prices, penalties in data_for((T, R, OPEN_RING) + EDGE_TABLES + LARGE_TABLES, 9):
            self.assert_leaves(smallest_cover, table)
            self.assert_leaves(cheapest_cover_cost, table, prices)
            for value in (*ODD_VALUES, (), (0,), (0, 1), [0, 1]):
                self.assert_leaves(is_cover, table, value)
                self.assert_leaves(are_separate, table, value)

    def test_largest_tables_are_quick(self):
        for table, prices, penalties in data_for(LARGE_TABLES + tuple(plain.random_tables(20, 10, 10)), MAX_AMOUNT):
            self.assert_quick(smallest_cover, table)
            self.assert_quick(cheapest_cover_cost, table, prices)
            self.assert_quick(is_cover, table, tuple(range(len(table[1]))))
            self.assert_quick(are_separate, table, ALL)

    def test_somewhat_beyond_the_limits(self):
        many = MAX_DEMANDS + 1
        path = (many, plain.cycle(many)[1][:-1])
        self.assertEqual(len(smallest_cover(path)[0]), 6)
        self.assert_same(cheapest_cover_cost(plain.cycle(many), (MAX_AMOUNT + 1,) * many), 6 * (MAX_AMOUNT + 1))
        self.assertIs(is_cover(path, tuple(range(many - 1))), True)
        self.assertIs(are_separate(path, tuple(range(0, many, 2))), True)


class TestIsCover(Case):
    def test_by_definition(self):
        for table in some_tables():
            expected = plain.covers(table)
            for choice in plain.subsets(range(len(table[1]))):
                self.assertIs(is_cover(table, choice), choice in expected)

    def test_no_offers(self):
        for demands in range(1, MAX_DEMANDS + 1):
            self.assert_rejects(is_cover, (demands, ()), ())

    def test_equal_and_empty_offers(self):
        table = (2, ((0, 1), (), (0, 1)))
        for choice, expected in (((0,), True), ((1,), False), ((2,), True), ((0, 2), True), ((0, 1, 2), True), ((), False)):
            self.assertIs(is_cover(table, choice), expected)

    def test_no_choice(self):
        for table in (T, R) + EDGE_TABLES + LARGE_TABLES:
            many = len(table[1])
            every = tuple(range(many))
            wrong = [*ODD_VALUES, *NOT_ASCENDING, 0, 1, -1, LONG, (many,), every + (many,), (-1,) + every]
            for value in wrong + other_kinds(every) + [list(every), every + every[-1:] + (0,)]:
                self.assert_rejects(is_cover, table, value)

    def test_a_cover_with_parts_changed(self):
        for table in (T, R, (1, ((0,), (0,)))) + FREE_TABLES[2:4] + RING_TABLES:
            every = tuple(range(len(table[1])))
            self.assertIs(is_cover(table, every), True)
            for value in other_kinds(every):
                self.assert_rejects(is_cover, table, value)
            self.assert_rejects(is_cover, table, every[::-1])
            self.assert_rejects(is_cover, table, every + (len(every),))
        self.assert_rejects(is_cover, (1, ((0,), (0,))), (False,))
        self.assert_rejects(is_cover, (1, ((0,), (0,))), (0, True))


class TestAreSeparate(Case):
    def test_by_definition(self):
        for table in some_tables():
            expected = plain.separate_sets(table)
            for demands in plain.subsets(range(table[0])):
                self.assertIs(are_separate(table, demands), demands in expected)

    def test_the_empty_tuple(self):
        for table in (T, R) + EDGE_TABLES + LARGE_TABLES:
            self.assertIs(are_separate(table, ()), True)
            self.assert_rejects(are_separate, table, [])

    def test_all_demands(self):
        self.assertIs(are_separate((MAX_DEMANDS, ()), ALL), True)
        self.assertIs(are_separate((MAX_DEMANDS, tuple([(demand,) for demand in ALL])), ALL), True)
        self.assert_rejects(are_separate, (MAX_DEMANDS, ((0, 9),)), ALL)

    def test_other_values(self):
        for demands in (1, 2, 3, MAX_DEMANDS):
            table, every = (demands, ()), tuple(range(demands))
            self.assertIs(are_separate(table, every), True)
            wrong = [*ODD_VALUES, *NOT_ASCENDING, 0, 1, -1, LONG, (demands,), every + (demands,), (-1,) + every]
            for value in wrong + other_kinds(every) + [every + every[-1:]]:
                self.assert_rejects(are_separate, table, value)
        for value in other_lengths((0, 2))[2:] + [(2, 0), (0, 0), (0, 3), (False, 2), [0, 2]]:
            self.assert_rejects(are_separate, T, value)


class TestSmallestCover(Case):
    """Guarantee (e): as few offers cover all demands as there are separate demands."""

    def test_by_plain_search(self):
        orderable = 0
        for table in compared_tables():
            if plain.uncovered(table):
                self.assert_not_covered(table)
            elif plain.nested_orders(table):
                self.check(table)
                orderable += 1
            else:
                self.assert_not_orderable(smallest_cover, table)
        self.assertGreater(orderable, 500)

    def test_largest(self):
        for table in LARGE_TABLES:
            if plain.uncovered(table):
                self.assert_not_covered(table)
            elif table in RING_TABLES:
                self.assert_not_orderable(smallest_cover, table)
            else:
                self.check(table)

    def check(self, table):
        found = smallest_cover(table)
        self.assertIs(type(found), tuple)
        cover, demands = found
        self.assertIs(is_cover(table, cover), True)
        self.assertIs(are_separate(table, demands), True)
        self.assertIn(cover, plain.covers(table))
        self.assertIn(demands, plain.separate_sets(table))
        self.assertEqual({type(number) for number in cover + demands}, {int})
        self.assertEqual(len(cover), min([len(choice) for choice in plain.covers(table)]))
        self.assertEqual(len(demands), max([len(row) for row in plain.separate_sets(table)]))
        self.assertEqual(len(cover), len(demands))

    def assert_not_covered(self, table):
        self.assert_raises(NotCovered, {"demand": plain.uncovered(table)[0]}, smallest_cover, table)

    def test_one_demand(self):
        for many in range(1, MAX_OFFERS + 1):
            self.check((1, ((0,),) * many))
        self.assert_raises(NotCovered, {"demand": 0}, smallest_cover, (1, ()))
        self.assert_raises(NotCovered, {"demand": 0}, smallest_cover, (1, ((),)))

    def test_one_offer_for_all_or_for_each(self):
        self.assertEqual(len(smallest_cover((MAX_DEMANDS, (ALL,) * MAX_OFFERS))[0]), 1)
        single = tuple([(demand,) for demand in ALL])
        self.assert_same(smallest_cover((MAX_DEMANDS, single)), (ALL, ALL))

    def test_the_lowest_uncovered_demand(self):
        for demand in ALL:
            offers = tuple([ALL[:demand] + ALL[demand + 1:]])
            self.assert_raises(NotCovered, {"demand": demand}, smallest_cover, (MAX_DEMANDS, offers))
        self.assert_raises(NotCovered, {"demand": 1}, smallest_cover, (4, ((0,), (2,))))
        self.assert_raises(NotCovered, {"demand": 0}, smallest_cover, (MAX_DEMANDS, ()))

    def test_not_covered_comes_first(self):
        self.assert_raises(NotCovered, {"demand": 3}, smallest_cover, OPEN_RING)
        self.assert_raises(NotCovered, {"demand": 9}, smallest_cover, (10, plain.cycle(9)[1]))

    def test_the_ring(self):
        for table in (R, *RING_TABLES):
            if plain.uncovered(table):
                continue
            with self.assertRaises(NotOrderable) as context:
                smallest_cover(table)
            self.assertIs(is_ring(table, context.exception.ring), True)


class TestCheapestCoverCost(Case):
    def test_by_plain_search(self):
        for greatest in (1, 9):
            for table, prices, penalties in data_for(compared_tables(), greatest):
                self.check(table, prices)

    def test_edges(self):
        for table, prices, penalties in edge_cases():
            self.check(table, prices)

    def test_largest(self):
        tables = LARGE_TABLES + tuple(plain.random_tables(10, 10, 10))
        for table, prices, penalties in data_for(tables, 30) + data_for(tables, MAX_AMOUNT):
            self.check(table, prices)

    def check(self, table, prices):
        if plain.uncovered(table):
            self.assert_raises(NotCovered, {"demand": plain.uncovered(table)[0]}, cheapest_cover_cost, table, prices)
            return
        lowest = min([sum([prices[offer] for offer in choice]) for choice in plain.covers(table)])
        self.assert_same(cheapest_cover_cost(table, prices), lowest)

    def test_prices_of_nothing_and_of_the_most(self):
        single = (MAX_DEMANDS, tuple([(demand,) for demand in ALL]))
        self.assert_same(cheapest_cover_cost(single, (0,) * MAX_OFFERS), 0)
        self.assert_same(cheapest_cover_cost(single, (MAX_AMOUNT,) * MAX_OFFERS), 10 * MAX_AMOUNT)

    def test_equal_offers(self):
        self.assert_same(cheapest_cover_cost((1, ((0,), (0,), (0,))), (5, 3, 4)), 3)

    def test_not_covered(self):
        self.assert_raises(NotCovered, {"demand": 3}, cheapest_cover_cost, OPEN_RING, (1, 1, 1))
        self.assert_raises(NotCovered, {"demand": 0}, cheapest_cover_cost, (MAX_DEMANDS, ()), ())


if __name__ == "__main__":
    unittest.main()
