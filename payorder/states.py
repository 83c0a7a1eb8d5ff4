"""The states of sessions: how operations change a state, and what is asked of it.

A state is a tuple (table, prices, penalties). Operations return a new state, so that the old one can be kept.
"""

from payorder.checks import are_amounts, is_amount, is_ascending_below, is_number_below
from payorder.errors import BadPenalties, BadPrices, BadTable, Blocked, LastDemand, NoAmount, NoChoice, NoDemand
from payorder.errors import NoOffer, NotOrderable, TooMany
from payorder.limits import MAX_BATCH, MAX_DEMANDS
from payorder.orders import first_nested_order
from payorder.payments import cheapest_cost, choose_full, pay_along
from payorder.rings import certificate
from payorder.tables import add_offer, is_table, remove_offer, restrict_demands, with_item, without_item


def checked_state(table, prices, penalties):
    """Return the state with these parts. Raise BadTable, BadPrices or BadPenalties if one is not correct."""
    if not is_table(table):
        raise BadTable()
    if not are_amounts(prices, len(table[1])):
        raise BadPrices()
    if not are_amounts(penalties, table[0]):
        raise BadPenalties()
    return table, prices, penalties


def check_amount(value):
    """Raise NoAmount if value is not an amount."""
    if not is_amount(value):
        raise NoAmount(value)


def demand_added(state, penalty, offers):
    """Return the state with one more demand, which the given offers cover."""
    (demands, rows), prices, penalties = state
    check_amount(penalty)
    if not is_ascending_below(offers, len(rows)):
        raise NoChoice()
    if demands >= MAX_DEMANDS:
        raise TooMany(MAX_DEMANDS)
    widened = [row + (demands,) if number in offers else row for number, row in enumerate(rows)]
    return (demands + 1, tuple(widened)), prices, penalties + (penalty,)


def demand_removed(state, demand):
    """Return the state without that demand."""
    table, prices, penalties = state
    if not is_number_below(demand, table[0]):
        raise NoDemand(demand)
    if table[0] == 1:
        raise LastDemand()
    kept = tuple([other for other in range(table[0]) if other != demand])
    return restrict_demands(table, kept), prices, without_item(penalties, demand)


def offer_added(state, price, demands):
    """Return the state with one more offer."""
    table, prices, penalties = state
    check_amount(price)
    return add_offer(table, demands), prices + (price,), penalties


def offer_removed(state, offer):
    """Return the state without that offer."""
    table, prices, penalties = state
    return remove_offer(table, offer), without_item(prices, offer), penalties


def price_set(state, offer, price):
    """Return the state with another price of that offer."""
    table, prices, penalties = state
    if not is_number_below(offer, len(table[1])):
        raise NoOffer(offer)
    check_amount(price)
    return table, with_item(prices, offer, price), penalties


def penalty_set(state, demand, penalty):
    """Return the state with another penalty of that demand."""
    table, prices, penalties = state
    if not is_number_below(demand, table[0]):
        raise NoDemand(demand)
    check_amount(penalty)
    return table, prices, with_item(penalties, demand, penalty)


CHANGES = {
    "add_demand": demand_added,
    "remove_demand": demand_removed,
    "add_offer": offer_added,
    "remove_offer": offer_removed,
    "set_price": price_set,
    "set_penalty": penalty_set,
}

# How many arguments each operation takes.
ARGUMENTS = {
    "add_demand": 2,
    "remove_demand": 1,
    "add_offer": 2,
    "remove_offer": 1,
    "set_price": 2,
    "set_penalty": 2,
}


def changed(state, word, arguments):
    """Return the state after the operation with that word and these arguments."""
    change = CHANGES[word]
    return change(state, *arguments)


def is_batch(value):
    """Return whether value is a list or tuple of at most MAX_BATCH operations."""
    if not isinstance(value, (list, tuple)) or len(value) > MAX_BATCH:
        return False
    return all([is_operation(part) for part in value])


def is_operation(value):
    """Return whether value is a tuple of the word of an operation and as many arguments as it takes."""
    if not isinstance(value, tuple) or len(value) == 0:
        return False
    word = value[0]
    # Only a string is looked up, because not every value can be a key.
    return isinstance(word, str) and word in ARGUMENTS and len(value) == ARGUMENTS[word] + 1


def check_not_blocked(state):
    """Raise Blocked if the table of the state has no nested order."""
    try:
        first_nested_order(state[0])
    except NotOrderable as e:
        raise Blocked(e.ring)


def certificate_of(state):
    """Return the certificate of the table."""
    return certificate(state[0])


def cost_of(state):
    """Return the lowest cost of a choice."""
    table, prices, penalties = state
    return cheapest_cost(table, prices, penalties)


def payments_of(state):
    """Return the payments along the first nested order."""
    table, prices, penalties = state
    return pay_along(table, prices, penalties, first_nested_order(table))


def choice_of(state):
    """Return the choice of the second pass along the first nested order."""
    table, prices, penalties = state
    return choose_full(table, prices, penalties, first_nested_order(table))


def described(state):
    """Return the text that a session shows of its state."""
    demands, offers = state[0]
    return f"{demands} demands, {len(offers)} offers, cost {cost_of(state)}"
