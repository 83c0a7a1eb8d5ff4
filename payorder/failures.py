"""Failures: prices and penalties for which a bad order collects too little."""

from payorder.checks import are_amounts, is_order, is_tuple_of
from payorder.errors import NoOrder
from payorder.orders import find_conflict
from payorder.payments import is_collection, pay_along

# Enough for all three demands of a conflict that pay 1 each.
AMPLE_PRICE = 3


def find_failure(table, order):
    """Return a failure of the order, or None if the order is nested."""
    conflict = find_conflict(table, order)
    if conflict is None:
        return None
    demands, offers = table
    k, i, j, a, b = conflict
    prices = tuple([1 if offer in (a, b) else AMPLE_PRICE for offer in range(len(offers))])
    # k comes first and fills both a and b, though i and j could pay 1 each instead.
    return prices, ones_at((k, i, j), demands), ones_at((i, j), demands)


def ones_at(places, length):
    """Return the tuple of that length with 1 at the given places and 0 elsewhere."""
    return tuple([1 if place in places else 0 for place in range(length)])


def is_failure(table, order, value):
    """Return whether value is a failure of the order."""
    demands, offers = table
    if not is_order(order, demands):
        raise NoOrder()
    if not is_tuple_of(value, 3):
        return False
    prices, penalties, collection = value
    if not are_amounts(prices, len(offers)) or not are_amounts(penalties, demands):
        return False
    if not is_collection(table, prices, penalties, collection):
        return False
    return sum(collection) > sum(pay_along(table, prices, penalties, order))
