"""The search for a ring. It stands apart because both nested orders and rings need it."""

from payorder.tables import covering_pairs


def search_ring(table):
    """Return a ring of the table, or None if there is none."""
    for demand in range(table[0]):
        for one, other in covering_pairs(table, demand):
            ring = ring_through(table, demand, one, other)
            if ring is not None:
                return ring
    return None


def ring_through(table, demand, one, other):
    """Return a ring in which the two offers meet at the demand, or None."""
    offers = table[1]
    starts = [start for start in offers[one] if start not in offers[other]]
    # The other offers of such a ring do not cover the demand where these two meet.
    links = [number for number, offer in enumerate(offers) if demand not in offer]
    way = shortest_way(offers, links, starts, offers[other], offers[one])
    if way is None:
        return None
    passed, used = way
    return (demand, *passed), (one, *used, other)


def shortest_way(offers, links, starts, ends, closed):
    """Return the demands and the offers of a way from a start to an end, or None.

    Behind its start, the way goes by the links and by no closed demand. A shortest way is taken because
    each of its offers covers only the two demands beside it: any other one would be a short cut.
    """
    before = {start: None for start in starts}
    layer = starts
    while layer:
        following = []
        for demand, link, reached in steps_from(offers, links, layer):
            if reached in before or reached in closed:
                continue
            before[reached] = (demand, link)
            if reached in ends:
                return way_to(before, reached)
            following.append(reached)
        layer = following
    return None


def steps_from(offers, links, layer):
    """Return the list of the steps (demand, link, reached demand) from the demands of the layer."""
    return [
        (demand, link, reached)
        for demand in layer
        for link in links if demand in offers[link]
        for reached in offers[link]
    ]


def way_to(before, end):
    """Return the demands and the offers of the way that leads to the end."""
    passed = [end]
    used = []
    while before[passed[-1]] is not None:
        demand, link = before[passed[-1]]
        passed.append(demand)
        used.append(link)
    return passed[::-1], used[::-1]
