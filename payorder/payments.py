"""Choices of offers, and payments of demands."""

from payorder.checks import is_ascending_below, is_integer, is_number_below, is_order, is_tuple_of
from payorder.errors import NoChoice, NoOrder
from payorder.orders import first_nested_order, is_nested_order, sort_offers
from payorder.tables import covering_offers, mask_of, offer_masks


def choice_cost(table, prices, penalties, choice):
    """Return the cost of a choice."""
    offers = table[1]
    if not is_ascending_below(choice, len(offers)):
        raise NoChoice()
    covered = 0
    for offer in choice:
        covered |= mask_of(offers[offer])
    return sum([prices[offer] for offer in choice]) + penalty_outside(penalties, covered)


def penalty_outside(penalties, covered):
    """Return the sum of the penalties of all demands that are not in the set with the mask covered."""
    return sum([penalty for demand, penalty in enumerate(penalties) if not covered >> demand & 1])


def cheapest_cost(table, prices, penalties):
    """Return the lowest cost of a choice."""
    lowest = {0: 0}
    for mask, price in zip(offer_masks(table), prices):
        lowest = with_offer(lowest, mask, price)
    return min([lowest[covered] + penalty_outside(penalties, covered) for covered in lowest])


def with_offer(lowest, mask, price):
    """Return the lowest sums of prices, by the masks of the covered sets, if one more offer may be chosen."""
    widened = dict(lowest)
    for covered in lowest:
        total = lowest[covered] + price
        wider = covered | mask
        if wider not in widened or total < widened[wider]:
            widened[wider] = total
    return widened


def is_collection(table, prices, penalties, value):
    """Return whether value is a collection."""
    demands, offers = table
    if not is_tuple_of(value, demands):
        return False
    if not all([is_number_below(payment, penalty + 1) for payment, penalty in zip(value, penalties)]):
        return False
    return all([paid_for(offer, value) <= price for offer, price in zip(offers, prices)])


def paid_for(offer, payments):
    """Return the sum of the payments of the demands that the offer covers."""
    return sum([payments[demand] for demand in offer])


def pay_along(table, prices, penalties, order):
    """Return the payments along the order, in the order of the demands' numbers."""
    demands = table[0]
    if not is_order(order, demands):
        raise NoOrder()
    left = list(prices)
    payments = [0] * demands
    for demand in order:
        covering = covering_offers(table, demand)
        payment = min([penalties[demand]] + [left[offer] for offer in covering])
        payments[demand] = payment
        for offer in covering:
            left[offer] -= payment
    return tuple(payments)


def choose_full(table, prices, penalties, order):
    """Return a cheapest choice: full offers, taken in a second pass over the offers."""
    if not is_nested_order(table, order):
        raise NoOrder()
    offers = table[1]
    payments = pay_along(table, prices, penalties, order)
    paying = mask_of([demand for demand in order if payments[demand] > 0])
    covered = 0
    taken = []
    for number in reversed(sort_offers(table, order)):
        served = mask_of(offers[number]) & paying
        if paid_for(offers[number], payments) == prices[number] and served & covered == 0:
            taken.append(number)
            covered |= served
    return tuple(sorted(taken))


def solve(table, prices, penalties):
    """Return (cost, choice, collection): a cheapest choice, and a collection with its cost as the total."""
    order = first_nested_order(table)
    choice = choose_full(table, prices, penalties, order)
    cost = choice_cost(table, prices, penalties, choice)
    return cost, choice, pay_along(table, prices, penalties, order)


def is_solution(table, prices, penalties, value):
    """Return whether value is (cost, choice, collection): a choice with that cost, and a collection with that total."""
    if not is_tuple_of(value, 3):
        return False
    cost, choice, collection = value
    if not is_integer(cost) or not is_ascending_below(choice, len(table[1])):
        return False
    if not is_collection(table, prices, penalties, collection):
        return False
    return choice_cost(table, prices, penalties, choice) == cost and sum(collection) == cost
