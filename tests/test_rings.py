"""Points 22 to 26: rings and certificates."""

import itertools
import unittest

import plain
from cases import Case
from payorder import rings
from payorder.orders import first_nested_order
from payorder.rings import certificate, find_ring, is_certificate, is_ring
from plain import ALL, EDGE_TABLES, FREE_TABLES, LARGE_TABLES, ORDERABLE_TABLES, RING_TABLES, compared_tables
from samples import LONG, NOT_ASCENDING, ODD_VALUES, R, T, not_orders, other_kinds, other_lengths

RING_OF_R = ((0, 1, 2), (0, 1, 2))

# Four demands in a ring, and an offer that covers all of them.
CHORD = (4, plain.cycle(4)[1] + ((0, 1, 2, 3),))


class TestInterface(Case):
    def test_names_and_parameters(self):
        self.assert_interface(rings, {
            "is_ring": ["table", "value"],
            "find_ring": ["table"],
            "certificate": ["table"],
            "is_certificate": ["table", "value"],
        })

    def test_arguments_stay(self):
        for table in (T, R) + EDGE_TABLES + RING_TABLES:
            self.assert_leaves(find_ring, table)
            self.assert_leaves(certificate, table)
            for value in (*ODD_VALUES, RING_OF_R, ("ring", RING_OF_R), ("order", (0, 1, 2)), ["order", [0, 1, 2]]):
                self.assert_leaves(is_ring, table, value)
                self.assert_leaves(is_certificate, table, value)

    def test_largest_tables_are_quick(self):
        for table in LARGE_TABLES + tuple(plain.random_tables(20, 10, 10)):
            self.assert_quick(find_ring, table)
            self.assert_quick(certificate, table)
            self.assert_quick(is_ring, table, (ALL, ALL))
            self.assert_quick(is_certificate, table, ("ring", (ALL, ALL)))
            self.assert_quick(is_certificate, table, ("order", ALL))


class TestIsRing(Case):
    def test_by_plain_search(self):
        for table in itertools.chain([R, T, CHORD, plain.cycle(4)], plain.random_tables(15, 4, 4)):
            expected = plain.rings(table)
            for many in (1, 2, 3, 4):
                for demands in itertools.permutations(range(table[0]), many):
                    for offers in itertools.permutations(range(len(table[1])), many):
                        value = (demands, offers)
                        self.assertIs(is_ring(table, value), value in expected)

    def test_turned_and_reversed(self):
        for many in range(3, 11):
            table = plain.cycle(many)
            row = tuple(range(many))
            for at in row:
                turned = row[at:] + row[:at]
                self.assertIs(is_ring(table, (turned, turned)), True)
                back = turned[::-1]
                self.assertIs(is_ring(table, (back, back[1:] + back[:1])), True)
                self.assert_rejects(is_ring, table, (turned, turned[1:] + turned[:1]))
                self.assert_rejects(is_ring, table, (back, back))

    def test_other_demands_of_the_ring(self):
        self.assert_rejects(is_ring, CHORD, ((0, 1, 2, 3), (0, 1, 2, 4)))
        self.assertIs(is_ring(CHORD, ((0, 1, 2, 3), (0, 1, 2, 3))), True)

    def test_demands_outside_the_ring_do_not_count(self):
        table = (5, ((0, 1, 4), (1, 2, 3, 4), (0, 2, 3)))
        self.assertIs(is_ring(table, RING_OF_R), True)
        self.assertIs(is_ring(table, ((0, 1, 3), (0, 1, 2))), True)
        self.assert_rejects(is_ring, table, ((0, 1, 4), (0, 1, 2)))

    def test_two_are_no_ring(self):
        table = (3, ((0, 1), (0, 1), (2,)))
        for value in (((0, 1), (0, 1)), ((), ()), ((2,), (2,)), ((0,), (0,))):
            self.assert_rejects(is_ring, table, value)

    def test_duplicates(self):
        table = (3, ((0, 1), (1, 2), (0, 2), (0, 1)))
        for value in (((0, 1, 2, 0, 1, 2), (0, 1, 2, 0, 1, 2)), ((0, 1, 1), (0, 1, 2)), ((0, 1, 0), (0, 0, 0)),
                      ((0, 1, 0, 1), (0, 3, 0, 3)), ((0, 1, 0), (0, 3, 0))):
            self.assert_rejects(is_ring, table, value)
        self.assert_rejects(is_ring, R, ((0, 1, 2, 0, 1, 2), (0, 1, 2, 0, 1, 2)))

    def test_numbers_out_of_range(self):
        for value in (((0, 1, 3), (0, 1, 2)), ((0, 1, 2), (0, 1, 3)), ((0, 1, -1), (0, 1, 2)), ((0, 1, 2), (0, 1, -1)),
                      ((0, 1, LONG), (0, 1, 2)), ((-3, -2, -1), (-3, -2, -1))):
            self.assert_rejects(is_ring, R, value)

    def test_other_values(self):
        for table, ring in ((R, RING_OF_R), (CHORD, ((0, 1, 2, 3), (0, 1, 2, 3))), (plain.cycle(10), (ALL, ALL))):
            self.assertIs(is_ring(table, ring), True)
            for value in other_kinds(ring) + other_lengths(ring):
                self.assert_rejects(is_ring, table, value)
            for row in other_lengths(ring[0]):
                self.assert_rejects(is_ring, table, (row, ring[1]))
                self.assert_rejects(is_ring, table, (ring[0], row))
                self.assert_rejects(is_ring, table, (row, row))
        for table in (T, R) + EDGE_TABLES + LARGE_TABLES:
            for value in (*ODD_VALUES, *NOT_ASCENDING, 0, (), ((), ()), "ab", ("ab", "cd"), ("012", "012"), {0: 1, 1: 2}):
                self.assert_rejects(is_ring, table, value)


class TestFindRing(Case):
    def test_either_a_ring_or_a_nested_order(self):
        for table in compared_tables():
            self.check(table, bool(plain.nested_orders(table)))

    def test_by_plain_search(self):
        for table in itertools.chain(plain.small_tables(), plain.random_tables(60, 4, 4), plain.random_tables(20, 4, 5)):
            self.check(table, not plain.rings(table))

    def test_largest(self):
        for table in FREE_TABLES + ORDERABLE_TABLES + EDGE_TABLES:
            self.check(table, True)
        for table in RING_TABLES:
            self.check(table, False)

    def test_one_ring_only(self):
        for many in range(3, 11):
            self.check(plain.cycle(many), False)
            for offer in range(many):
                without = plain.cycle(many)[1][:offer] + plain.cycle(many)[1][offer + 1:]
                self.check((many, without), True)

    def test_many_random_tables(self):
        found = set()
        for table in plain.random_tables(150, 10, 10) + plain.random_tables(150, 7, 4) + plain.random_tables(150, 10, 3):
            ring = find_ring(table)
            self.check(table, ring is None)
            if ring is None:
                self.assertTrue(plain.is_nested(table, first_nested_order(table)))
            found.add(ring is None)
        self.assertEqual(found, {True, False})

    def check(self, table, orderable):
        ring = find_ring(table)
        if orderable:
            self.assertIsNone(ring, table)
        else:
            self.assert_ring(table, ring)
            self.assertIs(is_ring(table, ring), True)


class TestCertificate(Case):
    def test_orderable(self):
        for table in (T,) + EDGE_TABLES + FREE_TABLES + ORDERABLE_TABLES:
            self.assert_same(certificate(table), ("order", first_nested_order(table)))

    def test_not_orderable(self):
        for table in (R, CHORD) + RING_TABLES:
            self.check_ring(table, certificate(table))

    def test_by_plain_search(self):
        for table in compared_tables():
            expected = plain.nested_orders(table)
            found = certificate(table)
            self.assertIs(is_certificate(table, found), True)
            if expected:
                self.assert_same(found, ("order", expected[0]))
            else:
                self.check_ring(table, found)

    def check_ring(self, table, found):
        self.assertIs(type(found), tuple)
        word, ring = found
        self.assertEqual(word, "ring")
        self.assert_ring(table, ring)


class TestIsCertificate(Case):
    def test_any_nested_order(self):
        for table in (T, (4, ((0, 1), (1, 2), (2, 3), (0, 1, 2, 3)))) + EDGE_TABLES:
            for order in itertools.permutations(range(table[0])):
                self.assertIs(is_certificate(table, ("order", order)), plain.is_nested(table, order))
                self.assert_rejects(is_certificate, table, ("ring", order))

    def test_any_ring(self):
        for table in (R, CHORD, plain.cycle(4)):
            for ring in plain.rings(table):
                self.assertIs(is_certificate(table, ("ring", ring)), True)
                self.assert_rejects(is_certificate, table, ("order", ring))

    def test_orders_of_a_table_with_a_ring(self):
        for table in (R, CHORD, plain.cycle(4)):
            for order in itertools.permutations(range(table[0])):
                self.assert_rejects(is_certificate, table, ("order", order))

    def test_wrong_orders(self):
        for table in (T,) + EDGE_TABLES + FREE_TABLES:
            for value in not_orders(table[0]):
                self.assert_rejects(is_certificate, table, ("order", value))
                self.assert_rejects(is_certificate, table, ("ring", value))

    def test_wrong_rings(self):
        for value in (((0, 1, 2), (1, 0, 2)), ((0, 1), (0, 1)), ((), ()), ((0, 1, 2), (0, 1, 3))):
            self.assert_rejects(is_certificate, R, ("ring", value))

    def test_other_values(self):
        for table, found in ((T, ("order", (2, 1, 0))), (R, ("ring", RING_OF_R))):
            self.assertIs(is_certificate(table, found), True)
            for value in other_kinds(found) + other_lengths(found) + [found[1], found[::-1], ("none", found[1])]:
                self.assert_rejects(is_certificate, table, value)
            for word in ODD_VALUES:
                self.assert_rejects(is_certificate, table, (word, found[1]))
        for table in (T, R) + EDGE_TABLES + LARGE_TABLES:
            for value in (*ODD_VALUES, *NOT_ASCENDING, 0, (), ("order",), ("ring",), "order", ("order", None), ("ring", 0)):
                self.assert_rejects(is_certificate, table, value)


if __name__ == "__main__":
    unittest.main()
