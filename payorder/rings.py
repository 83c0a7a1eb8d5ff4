"""Rings, and the certificates that a table is orderable or not."""

from payorder.checks import is_distinct_below, is_tuple_of
from payorder.orders import first_nested_order, is_nested_order
from payorder.ring_search import search_ring


def is_ring(table, value):
    """Return whether value is a ring of the table."""
    if not is_tuple_of(value, 2):
        return False
    demands, offers = value
    if not is_distinct_below(demands, table[0]) or not is_distinct_below(offers, len(table[1])):
        return False
    if len(demands) != len(offers) or len(demands) < 3:
        return False
    return all([links_neighbours(table, demands, place, offer) for place, offer in enumerate(offers)])


def links_neighbours(table, demands, place, offer):
    """Return whether the offer covers, of the ring's demands, the one at the place and the next one only."""
    neighbours = (demands[place], demands[(place + 1) % len(demands)])
    covered = table[1][offer]
    return all([(demand in covered) == (demand in neighbours) for demand in demands])


def find_ring(table):
    """Return a ring of the table, or None if the table is orderable."""
    return search_ring(table)


def certificate(table):
    """Return the first nested order or a ring, behind the word that tells which."""
    ring = find_ring(table)
    if ring is None:
        return "order", first_nested_order(table)
    return "ring", ring


def is_certificate(table, value):
    """Return whether value is a nested order or a ring of the table, behind the word that tells which."""
    if not is_tuple_of(value, 2):
        return False
    word, proof = value
    if word == "order":
        return is_nested_order(table, proof)
    return word == "ring" and is_ring(table, proof)
