"""Covers: choices whose offers cover all demands, and separate demands."""

from payorder.checks import is_ascending_below
from payorder.errors import NotCovered
from payorder.orders import first_nested_order
from payorder.payments import cheapest_cost, choose_full, pay_along
from payorder.tables import covering_offers


def is_cover(table, value):
    """Return whether value is a choice that is a cover."""
    demands, offers = table
    if not is_ascending_below(value, len(offers)):
        return False
    return all([any([demand in offers[offer] for offer in value]) for demand in range(demands)])


def are_separate(table, value):
    """Return whether value is an ascending tuple of demands no two of which are covered by one offer."""
    demands, offers = table
    if not is_ascending_below(value, demands):
        return False
    return all([len([demand for demand in value if demand in offer]) <= 1 for offer in offers])


def smallest_cover(table):
    """Return (cover, demands): a cover with as few offers as possible, and as many separate demands."""
    check_covered(table)
    demands, offers = table
    order = first_nested_order(table)
    # No demand can pay its penalty of 2, because an offer of price 1 covers it; so a cheapest choice is a cover.
    # Each offer gets 1 at most, so the paying demands are separate, and they pay as much as the choice costs.
    prices = (1,) * len(offers)
    penalties = (2,) * demands
    payments = pay_along(table, prices, penalties, order)
    paying = tuple([demand for demand, payment in enumerate(payments) if payment > 0])
    return choose_full(table, prices, penalties, order), paying


def cheapest_cover_cost(table, prices):
    """Return the lowest sum of prices of a cover."""
    check_covered(table)
    # One demand that is left out costs more than all offers together, so a cheapest choice is a cover.
    return cheapest_cost(table, prices, (sum(prices) + 1,) * table[0])


def check_covered(table):
    """Raise NotCovered with the lowest demand that no offer covers, if there is one."""
    for demand in range(table[0]):
        if len(covering_offers(table, demand)) == 0:
            raise NotCovered(demand)
