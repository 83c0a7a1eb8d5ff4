"""Points 5 to 11: tables."""

import itertools
import unittest

from payorder import tables
from payorder.errors import NoDemand, NoDemands, NoOffer, NoOffers, TooMany
from payorder.limits import MAX_DEMANDS, MAX_OFFERS
from payorder.tables import (
    add_offer, covering_offers, covering_pairs, is_table, mask_of, offer_masks, remove_offer, restrict_demands,
    transpose, with_item, without_item,
)
from cases import Case
from plain import EDGE_TABLES, LARGE_TABLES, compared_tables, small_tables
from samples import LONG, NOT_ASCENDING, ODD_VALUES, R, T, leaves_arguments

ALL = tuple(range(MAX_DEMANDS))
BIG = (MAX_DEMANDS, tuple([tuple(ALL[:many]) for many in range(MAX_OFFERS - 1)]) + (ALL,))
BARE = (2, ())
MIXED = (5, ((0, 2, 4), (), (1, 2), (0, 2, 4), (4,)))
TABLES = (T, R, BIG, BARE, MIXED, (1, ()), (1, ((),)), (1, ((0,), (0,))), (MAX_DEMANDS, ()), (4, ((), (), (3,))))

NOT_NUMBERS = ODD_VALUES + NOT_ASCENDING + ((), (0,), (1,), (0, 1), -1, -2, LONG, -LONG)
NOT_DEMANDS = ODD_VALUES + NOT_ASCENDING + (0, 1, -1, LONG)


class TableCase(Case):
    def assert_carries(self, kind, attribute, call, table, argument):
        with self.subTest(repr(argument)[:60]):
            with self.assertRaises(kind) as context:
                call(table, argument)
            self.assertIs(type(context.exception), kind)
            self.assertIs(getattr(context.exception, attribute), argument)

    def assert_no_demands(self, call, table, argument):
        with self.subTest(repr(argument)[:60]):
            with self.assertRaises(NoDemands) as context:
                call(table, argument)
            self.assertIs(type(context.exception), NoDemands)


class TestInterface(Case):
    def test_names_and_parameters(self):
        self.assert_interface(tables, {
            "is_table": ["value"],
            "covering_offers": ["table", "demand"],
            "restrict_demands": ["table", "demands"],
            "add_offer": ["table", "demands"],
            "remove_offer": ["table", "offer"],
            "transpose": ["table"],
        })

    def test_arguments_by_name(self):
        self.assertIs(is_table(value=T), True)
        self.assertEqual(covering_offers(table=T, demand=1), (0, 1))
        self.assertEqual(restrict_demands(table=T, demands=(0,)), (1, ((0,), ())))
        self.assertEqual(add_offer(table=T, demands=(0, 2)), R)
        self.assertEqual(remove_offer(table=R, offer=2), T)
        self.assertEqual(transpose(table=BIG)[0], MAX_OFFERS)


class TestIsTable(TableCase):
    def test_tables(self):
        for table in itertools.chain(TABLES, EDGE_TABLES, LARGE_TABLES, compared_tables()):
            with self.subTest(repr(table)):
                self.assertIs(is_table(table), True)

    def test_limits_are_allowed(self):
        for demands in range(1, MAX_DEMANDS + 1):
            for many in range(MAX_OFFERS + 1):
                self.assertIs(is_table((demands, ((),) * many)), True)
                self.assertIs(is_table((demands, (tuple(range(demands)),) * many)), True)

    def test_number_of_demands(self):
        for demands in (0, -1, MAX_DEMANDS + 1, LONG, -LONG, True, False, None, "3", (3,), [3], {}):
            self.assertIs(is_table((demands, ())), False)

    def test_number_of_offers(self):
        self.assertIs(is_table((3, ((),) * (MAX_OFFERS + 1))), False)
        self.assertIs(is_table((3, ((0, 1),) * (MAX_OFFERS + 1))), False)
        self.assertIs(is_table((3, ((),) * 1990)), False)

    def test_wrong_offers(self):
        wrong = ODD_VALUES + NOT_ASCENDING + ((3,), (0, 3), (-1, 1), [], [0], 0, 1)
        for offer in wrong:
            with self.subTest(repr(offer)[:60]):
                self.assertIs(is_table((3, (offer,))), False)
                self.assertIs(is_table((3, ((0, 1), offer))), False)
                self.assertIs(is_table((3, (offer, (0, 1)))), False)
                self.assertIs(is_table((3, ((), offer, (2,)))), False)

    def test_range_of_demands_is_that_of_the_table(self):
        for demands in range(1, MAX_DEMANDS + 1):
            self.assertIs(is_table((demands, ((demands - 1,),))), True)
            self.assertIs(is_table((demands, ((demands,),))), False)
            self.assertIs(is_table((demands, ((-1,),))), False)

    def test_truth_values_in_place_of_integers(self):
        for value in ((True, ()), (True, ((0,),)), (3, ((False, 1),)), (3, ((0, True),)), (2, ((0, 1), (True,)))):
            self.assertIs(is_table(value), False)

    def test_lists_in_place_of_tuples(self):
        for value in ([3, ((0, 1), (1, 2))], (3, [(0, 1), (1, 2)]), (3, ([0, 1], (1, 2))), (3, ((0, 1), [1, 2])),
                      [3, []], (3, []), (3, ([],))):
            self.assertIs(is_table(value), False)

    def test_other_lengths(self):
        for value in ((), (3,), (3, (), ()), (3, ((0, 1),), ()), ((),), (((0, 1),),), T + T, (T,), (T, (), ())):
            self.assertIs(is_table(value), False)

    def test_other_values(self):
        for value in ODD_VALUES + NOT_ASCENDING + (0, 1, 3, -1, LONG, "(3, ())", "ab", {3: ()}, {0: 3, 1: ()}):
            with self.subTest(repr(value)[:60]):
                self.assertIs(is_table(value), False)

    def test_other_values_in_place_of_the_offers(self):
        for value in ODD_VALUES + (0, 1, {(0, 1): True}, "ab"):
            if value in (((),), ((0,),)):
                continue
            with self.subTest(repr(value)[:60]):
                self.assertIs(is_table((1, value)), False)

    def test_arguments_stay(self):
        for value in ODD_VALUES + NOT_ASCENDING + TABLES + ([3, [[0, 1], [1, 2]]], (3, [[0], (1,)])):
            self.assertTrue(leaves_arguments(is_table, value))


class TestCoveringOffers(TableCase):
    def test_ordinary(self):
        self.assert_same([covering_offers(T, demand) for demand in range(3)], [(0,), (0, 1), (1,)])
        self.assert_same([covering_offers(R, demand) for demand in range(3)], [(0, 2), (0, 1), (1, 2)])
        self.assert_same([covering_offers(MIXED, demand) for demand in range(5)],
                         [(0, 3), (2,), (0, 2, 3), (), (0, 3, 4)])

    def test_not_covered(self):
        self.assert_same(covering_offers(BARE, 1), ())
        self.assert_same(covering_offers((2, ((0,), ())), 1), ())

    def test_covered_by_all(self):
        self.assert_same(covering_offers((1, ((0,),) * MAX_OFFERS), 0), tuple(range(MAX_OFFERS)))
        self.assert_same(covering_offers(BIG, MAX_DEMANDS - 1), (MAX_OFFERS - 1,))

    def test_by_definition(self):
        for table in itertools.chain(TABLES, small_tables()):
            for demand in range(table[0]):
                expected = []
                for number in range(len(table[1])):
                    if demand in table[1][number]:
                        expected.append(number)
                self.assert_same(covering_offers(table, demand), tuple(expected))

    def test_no_demand(self):
        for table in TABLES:
            for demand in NOT_NUMBERS + (table[0], table[0] + 1):
                self.assert_carries(NoDemand, "demand", covering_offers, table, demand)

    def test_arguments_stay(self):
        for table in TABLES:
            for demand in NOT_NUMBERS + tuple(range(table[0] + 1)):
                self.assertTrue(leaves_arguments(covering_offers, table, demand))


class TestRestrictDemands(TableCase):
    def test_ordinary(self):
        self.assert_same(restrict_demands(T, (0, 2)), (2, ((0,), (1,))))
        self.assert_same(restrict_demands(R, (0, 1)), (2, ((0, 1), (1,), (0,))))
        self.assert_same(restrict_demands(MIXED, (2, 4)), (2, ((0, 1), (), (0,), (0, 1), (1,))))
        self.assert_same(restrict_demands(MIXED, (1, 3, 4)), (3, ((2,), (), (0,), (2,), (2,))))

    def test_offers_become_empty_and_stay(self):
        self.assert_same(restrict_demands(T, (2,)), (1, ((), (0,))))
        self.assert_same(restrict_demands(MIXED, (3,)), (1, ((), (), (), (), ())))
        self.assert_same(restrict_demands(BIG, (MAX_DEMANDS - 1,)), (1, ((),) * (MAX_OFFERS - 1) + ((0,),)))

    def test_all_demands(self):
        for table in itertools.chain(TABLES, small_tables()):
            self.assert_same(restrict_demands(table, tuple(range(table[0]))), table)

    def test_without_offers(self):
        self.assert_same(restrict_demands((MAX_DEMANDS, ()), (3, 5, 9)), (3, ()))

    def test_by_definition(self):
        for table in itertools.chain((T, R, MIXED), small_tables()):
            for many in range(1, table[0] + 1):
                for demands in itertools.combinations(range(table[0]), many):
                    offers = [tuple(sorted(demands.index(demand) for demand in offer if demand in demands))
                              for offer in table[1]]
                    found = restrict_demands(table, demands)
                    self.assert_same(found, (many, tuple(offers)))
                    self.assertTrue(is_table(found))

    def test_no_demands(self):
        for table in TABLES:
            many = table[0]
            for demands in NOT_DEMANDS + ((), (many,), (0, many), (-1, many - 1), tuple(range(many + 1))):
                self.assert_no_demands(restrict_demands, table, demands)

    def test_arguments_stay(self):
        for table in TABLES:
            for demands in NOT_DEMANDS + ((), (0,), (0, 1), tuple(range(table[0]))):
                self.assertTrue(leaves_arguments(restrict_demands, table, demands))


class TestAddOffer(TableCase):
    def test_ordinary(self):
        self.assert_same(add_offer(T, (0, 2)), R)
        self.assert_same(add_offer(T, (0, 1, 2)), (3, ((0, 1), (1, 2), (0, 1, 2))))
        self.assert_same(add_offer(T, (0, 1)), (3, ((0, 1), (1, 2), (0, 1))))
        self.assert_same(add_offer(BARE, (1,)), (2, ((1,),)))

    def test_empty_offer(self):
        self.assert_same(add_offer(T, ()), (3, ((0, 1), (1, 2), ())))
        self.assert_same(add_offer(BARE, ()), (2, ((),)))

    def test_up_to_the_limit(self):
        table = (MAX_DEMANDS, ())
        for many in range(MAX_OFFERS):
            table = add_offer(table, ALL)
            self.assert_same(table, (MAX_DEMANDS, (ALL,) * (many + 1)))
            self.assertTrue(is_table(table))

    def test_too_many(self):
        for table in (BIG, (1, ((),) * MAX_OFFERS), (3, ((0, 2),) * MAX_OFFERS)):
            for demands in ((), (0,), tuple(range(table[0]))):
                with self.assertRaises(TooMany) as context:
                    add_offer(table, demands)
                self.assert_same(context.exception.limit, MAX_OFFERS)

    def test_no_demands(self):
        for table in TABLES:
            many = table[0]
            for demands in NOT_DEMANDS + ((many,), (0, many), (-1, many - 1), tuple(range(many + 1))):
                self.assert_no_demands(add_offer, table, demands)

    def test_no_demands_comes_before_too_many(self):
        for demands in NOT_DEMANDS + ((MAX_DEMANDS,),):
            self.assert_no_demands(add_offer, BIG, demands)

    def test_arguments_stay(self):
        for table in TABLES:
            for demands in NOT_DEMANDS + ((), (0,), (0, 1), tuple(range(table[0]))):
                self.assertTrue(leaves_arguments(add_offer, table, demands))


class TestRemoveOffer(TableCase):
    def test_ordinary(self):
        self.assert_same(remove_offer(R, 0), (3, ((1, 2), (0, 2))))
        self.assert_same(remove_offer(R, 1), (3, ((0, 1), (0, 2))))
        self.assert_same(remove_offer(R, 2), T)

    def test_equal_and_empty_offers(self):
        self.assert_same(remove_offer(MIXED, 1), (5, ((0, 2, 4), (1, 2), (0, 2, 4), (4,))))
        self.assert_same(remove_offer(MIXED, 3), (5, ((0, 2, 4), (), (1, 2), (4,))))
        self.assert_same(remove_offer((1, ((0,), (0,))), 1), (1, ((0,),)))

    def test_the_only_one(self):
        self.assert_same(remove_offer((2, ((0, 1),)), 0), (2, ()))

    def test_later_numbers_decrease(self):
        for offer in range(MAX_OFFERS):
            found = remove_offer(BIG, offer)
            self.assertEqual(len(found[1]), MAX_OFFERS - 1)
            for number in range(MAX_OFFERS - 1):
                self.assert_same(found[1][number], BIG[1][number if number < offer else number + 1])

    def test_undoes_add_offer(self):
        for table in small_tables():
            self.assert_same(remove_offer(add_offer(table, (0,)), len(table[1])), table)

    def test_no_offer(self):
        for table in TABLES:
            many = len(table[1])
            for offer in NOT_NUMBERS + (many, many + 1, -many):
                self.assert_carries(NoOffer, "offer", remove_offer, table, offer)

    def test_no_offer_without_offers(self):
        for offer in (0, 1, -1, False, True):
            self.assert_carries(NoOffer, "offer", remove_offer, BARE, offer)

    def test_arguments_stay(self):
        for table in TABLES:
            for offer in NOT_NUMBERS + tuple(range(MAX_OFFERS + 1)):
                self.assertTrue(leaves_arguments(remove_offer, table, offer))


class TestTranspose(TableCase):
    def test_ordinary(self):
        self.assert_same(transpose(R), (3, ((0, 2), (0, 1), (1, 2))))
        self.assert_same(transpose(MIXED), (5, ((0, 3), (2,), (0, 2, 3), (), (0, 3, 4))))

    def test_empty_offers_and_demands_not_covered(self):
        self.assert_same(transpose((1, ((),))), (1, ((),)))
        self.assert_same(transpose((2, ((), (1,), ()))), (3, ((), (1,))))
        self.assert_same(transpose((3, ((), ()))), (2, ((), (), ())))
        self.assert_same(transpose((1, ((0,),) * MAX_OFFERS)), (MAX_OFFERS, (tuple(range(MAX_OFFERS)),)))

    def test_greatest(self):
        full = (MAX_DEMANDS, (ALL,) * MAX_OFFERS)
        self.assert_same(transpose(full), (MAX_OFFERS, (tuple(range(MAX_OFFERS)),) * MAX_DEMANDS))
        stairs = [tuple([number for number in range(MAX_OFFERS) if demand in BIG[1][number]]) for demand in ALL]
        self.assert_same(transpose(BIG), (MAX_OFFERS, tuple(stairs)))

    def test_twice(self):
        for table in itertools.chain(TABLES, small_tables()):
            if table[1]:
                self.assertTrue(is_table(transpose(table)))
                self.assert_same(transpose(transpose(table)), table)

    def test_no_offers(self):
        for demands in range(1, MAX_DEMANDS + 1):
            with self.assertRaises(NoOffers) as context:
                transpose((demands, ()))
            self.assertIs(type(context.exception), NoOffers)

    def test_arguments_stay(self):
        for table in TABLES:
            self.assertTrue(leaves_arguments(transpose, table))


class TestHelpers(TableCase):
    def test_covering_pairs(self):
        self.assert_same(covering_pairs(R, 0), [(0, 2)])
        self.assert_same(covering_pairs(T, 0), [])
        for table in itertools.chain(TABLES, small_tables()):
            for demand in range(table[0]):
                expected = list(itertools.combinations(covering_offers(table, demand), 2))
                self.assertEqual(sorted(covering_pairs(table, demand)), expected)

    def test_masks(self):
        self.assert_same(offer_masks(MIXED), [21, 0, 6, 21, 16])
        self.assert_same(offer_masks(BARE), [])
        self.assert_same([mask_of(()), mask_of((0,)), mask_of((1, 3)), mask_of(ALL)], [0, 1, 10, 1023])

    def test_one_item(self):
        self.assert_same([with_item((1, 2, 3), place, 9) for place in range(3)], [(9, 2, 3), (1, 9, 3), (1, 2, 9)])
        self.assert_same([without_item((1, 2, 3), place) for place in range(3)], [(2, 3), (1, 3), (1, 2)])
        self.assert_same(without_item((5,), 0), ())


if __name__ == "__main__":
    unittest.main()
