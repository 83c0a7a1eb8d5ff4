"""Nested orders: which there are, how many, and in which place each one stands."""

from payorder.checks import is_ascending_below, is_number_below, is_order, is_tuple_of
from payorder.errors import NoDemands, NoIndex, NoOrder, NotOrderable
from payorder.ring_search import search_ring
from payorder.tables import covering_pairs, mask_of, offer_masks


def simple_demands(table, demands):
    """Return the ascending tuple of the demands that are simple in the given set."""
    if not is_ascending_below(demands, table[0]) or len(demands) == 0:
        raise NoDemands()
    return tuple(simple_in(offer_masks(table), mask_of(demands)))


def simple_in(masks, rest):
    """Return the ascending list of the demands that are simple in the set with the mask rest."""
    members = [demand for demand in range(rest.bit_length()) if rest >> demand & 1]
    return [demand for demand in members if is_simple(masks, rest, demand)]


def is_simple(masks, rest, demand):
    """Return whether the demand is simple in the set with the mask rest."""
    parts = sorted([mask & rest for mask in masks if mask >> demand & 1])
    # A set that includes another one has the greater mask, so it is enough to compare neighbours.
    return all([small & great == small for small, great in zip(parts, parts[1:])])


def is_nested_order(table, value):
    """Return whether value is a nested order of the table."""
    return is_order(value, table[0]) and find_conflict(table, value) is None


def find_conflict(table, order):
    """Return a conflict of the order, or None if the order is nested."""
    if not is_order(order, table[0]):
        raise NoOrder()
    for place, demand in enumerate(order):
        conflict = conflict_at(table, demand, order[place + 1:])
        if conflict is not None:
            return conflict
    return None


def conflict_at(table, demand, later):
    """Return a conflict that begins with the demand, or None; later are the demands after it."""
    offers = table[1]
    for a, b in covering_pairs(table, demand):
        only_a = [i for i in later if i in offers[a] and i not in offers[b]]
        only_b = [j for j in later if j in offers[b] and j not in offers[a]]
        if only_a and only_b:
            return demand, only_a[0], only_b[0], a, b
    return None


def is_conflict(table, order, value):
    """Return whether value is a conflict of the order."""
    demands, offers = table
    if not is_order(order, demands):
        raise NoOrder()
    if not is_tuple_of(value, 5):
        return False
    if not all([is_number_below(number, demands) for number in value[:3]]):
        return False
    if not all([is_number_below(number, len(offers)) for number in value[3:]]):
        return False
    k, i, j, a, b = value
    later = order[order.index(k) + 1:]
    return i in later and j in later and splits(offers[a], k, i, j) and splits(offers[b], k, j, i)


def splits(offer, demand, inside, outside):
    """Return whether the offer covers the demand and the one inside, but not the one outside."""
    return demand in offer and inside in offer and outside not in offer


def first_nested_order(table):
    """Return the smallest nested order in tuple order."""
    masks = offer_masks(table)
    rest = (1 << table[0]) - 1
    order = []
    while rest:
        simple = simple_in(masks, rest)
        if not simple:
            raise NotOrderable(search_ring(table))
        # Each simple demand can come first if any can, so the lowest one gives the smallest order.
        order.append(simple[0])
        rest -= 1 << simple[0]
    return tuple(order)


def sort_offers(table, order):
    """Return the tuple of all offers; the last demand that only one of two covers puts it later."""
    demands, offers = table
    if not is_order(order, demands):
        raise NoOrder()
    rows = [([demand in offer for demand in order[::-1]], number) for number, offer in enumerate(offers)]
    return tuple([number for row, number in sorted(rows)])


def count_nested_orders(table):
    """Return the number of nested orders."""
    return counts_by_mask(table)[-1]


def counts_by_mask(table):
    """Return the list of the numbers of nested orders of the sets of demands, by their masks."""
    masks = offer_masks(table)
    counts = [1]
    for rest in range(1, 1 << table[0]):
        counts.append(sum([counts[rest - (1 << first)] for first in simple_in(masks, rest)]))
    return counts


def check_orderable(table):
    """Raise NotOrderable if the table has no nested order."""
    # The search for the first order is much quicker than counting all of them.
    first_nested_order(table)


def nested_order_at(table, index):
    """Return the nested order with that index in tuple order."""
    check_orderable(table)
    counts = counts_by_mask(table)
    if not is_number_below(index, counts[-1]):
        raise NoIndex(index)
    masks = offer_masks(table)
    rest = len(counts) - 1
    order = []
    skipped = 0
    while rest:
        for first in simple_in(masks, rest):
            many = counts[rest - (1 << first)]
            if index < skipped + many:
                break
            skipped += many
        order.append(first)
        rest -= 1 << first
    return tuple(order)


def nested_order_index(table, value):
    """Return the index of a nested order in tuple order."""
    check_orderable(table)
    if not is_nested_order(table, value):
        raise NoOrder()
    counts = counts_by_mask(table)
    masks = offer_masks(table)
    rest = len(counts) - 1
    index = 0
    for demand in value:
        lower = [first for first in simple_in(masks, rest) if first < demand]
        index += sum([counts[rest - (1 << first)] for first in lower])
        rest -= 1 << demand
    return index
