"""The lowest cost as a function of one price or one penalty."""

from payorder.payments import cheapest_cost
from payorder.tables import covering_offers, remove_offer, with_item, without_item


def cost_by_price(table, prices, penalties, offer):
    """Return (base, limit): with the price x of the offer, the lowest cost is min(base + x, limit)."""
    remaining = remove_offer(table, offer)
    base = cheapest_cost(table, with_item(prices, offer, 0), penalties)
    limit = cheapest_cost(remaining, without_item(prices, offer), penalties)
    return base, limit


def cost_by_penalty(table, prices, penalties, demand):
    """Return (base, limit): with the penalty x of the demand, the lowest cost is min(base + x, limit).

    If no offer covers the demand, limit is None, and the lowest cost is base + x.
    """
    covering = covering_offers(table, demand)
    base = cheapest_cost(table, prices, with_item(penalties, demand, 0))
    if len(covering) == 0:
        return base, None
    # Leaving the demand out costs more than all else together, so a cheapest choice covers it.
    deterrent = sum(prices) + sum(penalties) + 1
    return base, cheapest_cost(table, prices, with_item(penalties, demand, deterrent))
