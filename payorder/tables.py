"""Tables: which offers cover which demands."""

from payorder.checks import is_ascending_below, is_integer, is_number_below, is_tuple_of
from payorder.errors import NoDemand, NoDemands, NoOffer, NoOffers, TooMany
from payorder.limits import MAX_DEMANDS, MAX_OFFERS


def is_table(value):
    """Return whether value is a table."""
    if not is_tuple_of(value, 2):
        return False
    demands, offers = value
    if not is_integer(demands) or not 1 <= demands <= MAX_DEMANDS:
        return False
    if not isinstance(offers, tuple) or len(offers) > MAX_OFFERS:
        return False
    return all([is_ascending_below(offer, demands) for offer in offers])


def covering_offers(table, demand):
    """Return the ascending tuple of the offers that cover the demand."""
    demands, offers = table
    if not is_number_below(demand, demands):
        raise NoDemand(demand)
    return tuple([number for number, offer in enumerate(offers) if demand in offer])


def restrict_demands(table, demands):
    """Return the table with only the given demands, renumbered in ascending order."""
    many, offers = table
    if not is_ascending_below(demands, many) or len(demands) == 0:
        raise NoDemands()
    return len(demands), tuple([renumbered(offer, demands) for offer in offers])


def renumbered(offer, demands):
    """Return the offer with only the given demands, each by its index among them."""
    return tuple([index for index, demand in enumerate(demands) if demand in offer])


def add_offer(table, demands):
    """Return the table with one more offer at the end."""
    many, offers = table
    if not is_ascending_below(demands, many):
        raise NoDemands()
    if len(offers) >= MAX_OFFERS:
        raise TooMany(MAX_OFFERS)
    return many, offers + (demands,)


def remove_offer(table, offer):
    """Return the table without the offer with that number."""
    demands, offers = table
    if not is_number_below(offer, len(offers)):
        raise NoOffer(offer)
    return demands, without_item(offers, offer)


def transpose(table):
    """Return the table whose demands are the offers of table, and whose offers are its demands."""
    demands, offers = table
    if len(offers) == 0:
        raise NoOffers()
    return len(offers), tuple([covering_offers(table, demand) for demand in range(demands)])


def covering_pairs(table, demand):
    """Return the list of the pairs of offers, the lower number first, that both cover the demand."""
    covering = covering_offers(table, demand)
    return [(one, other) for other in covering for one in covering if one < other]


def offer_masks(table):
    """Return the list of the offers, each as the mask of the demands that it covers."""
    return [mask_of(offer) for offer in table[1]]


def mask_of(demands):
    """Return the integer whose bits are 1 at the given demands, a set that is compared quickly."""
    return sum([1 << demand for demand in demands])


def with_item(row, place, item):
    """Return the tuple with another item at that place."""
    return row[:place] + (item,) + row[place + 1:]


def without_item(row, place):
    """Return the tuple without the item at that place."""
    return row[:place] + row[place + 1:]
