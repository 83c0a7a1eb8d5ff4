"""Plain searches by the words of the document, and the tables on which they are compared with the program."""

import itertools
import random

from payorder.limits import MAX_AMOUNT, MAX_DEMANDS, MAX_OFFERS
from samples import R, T

ALL = tuple(range(MAX_DEMANDS))


def subsets(numbers):
    """All ascending tuples of some of the numbers."""
    return [part for many in range(len(numbers) + 1) for part in itertools.combinations(numbers, many)]


def is_simple(table, demand, among):
    parts = [set(offer) & set(among) for offer in table[1] if demand in offer]
    return all(one <= other or other <= one for one, other in itertools.combinations(parts, 2))


def is_nested(table, order):
    return all(is_simple(table, order[at], order[at:]) for at in range(len(order)))


def nested_orders(table):
    """All nested orders in tuple order, the order in which the permutations come."""
    return [order for order in itertools.permutations(range(table[0])) if is_nested(table, order)]


def conflicts(table, order):
    found = []
    for k, i, j in itertools.permutations(order, 3):
        if order.index(k) < min(order.index(i), order.index(j)):
            for a, b in itertools.permutations(range(len(table[1])), 2):
                first, second = table[1][a], table[1][b]
                if k in first and k in second and i in first and j not in first and j in second and i not in second:
                    found.append((k, i, j, a, b))
    return found


def is_ring(table, demands, offers):
    many = len(demands)
    for at in range(many):
        if set(table[1][offers[at]]) & set(demands) != {demands[at], demands[(at + 1) % many]}:
            return False
    return True


def rings(table):
    found = []
    for many in range(3, min(table[0], len(table[1])) + 1):
        for demands in itertools.permutations(range(table[0]), many):
            for offers in itertools.permutations(range(len(table[1])), many):
                if is_ring(table, demands, offers):
                    found.append((demands, offers))
    return found


def cost(table, prices, penalties, choice):
    total = sum(prices[offer] for offer in choice)
    for demand in range(table[0]):
        if not any(demand in table[1][offer] for offer in choice):
            total += penalties[demand]
    return total


def lowest_cost(table, prices, penalties):
    return min(cost(table, prices, penalties, choice) for choice in subsets(range(len(table[1]))))


def is_collection(table, prices, penalties, payments):
    for payment, penalty in zip(payments, penalties):
        if not 0 <= payment <= penalty:
            return False
    for offer, price in zip(table[1], prices):
        if sum(payments[demand] for demand in offer) > price:
            return False
    return True


def payments_along(table, prices, penalties, order):
    payments = [0] * table[0]
    for demand in order:
        payments[demand] = penalties[demand]
        while not is_collection(table, prices, penalties, payments):
            payments[demand] -= 1
    return tuple(payments)


def covers(table):
    """All choices whose offers cover all demands."""
    found = []
    for choice in subsets(range(len(table[1]))):
        if all(any(demand in table[1][offer] for offer in choice) for demand in range(table[0])):
            found.append(choice)
    return found


def separate_sets(table):
    """All ascending tuples of demands no two of which are covered by one offer."""
    found = []
    for demands in subsets(range(table[0])):
        pairs = itertools.combinations(demands, 2)
        if not any(one in offer and other in offer for one, other in pairs for offer in table[1]):
            found.append(demands)
    return found


def uncovered(table):
    """The demands that no offer covers."""
    return [demand for demand in range(table[0]) if not any(demand in offer for offer in table[1])]


def sorted_offers(table, order):
    """The offers put one by one in front of the first one that comes later."""
    placed = []
    for number in range(len(table[1])):
        at = len(placed)
        while at > 0 and comes_later(table, order, placed[at - 1], number):
            at -= 1
        placed.insert(at, number)
    return tuple(placed)


def comes_later(table, order, one, other):
    for demand in reversed(order):
        if (demand in table[1][one]) != (demand in table[1][other]):
            return demand in table[1][one]
    return one > other


def small_tables():
    """All tables of one to three demands and up to three offers."""
    for demands in (1, 2, 3):
        for many in range(4):
            for offers in itertools.product(subsets(range(demands)), repeat=many):
                yield demands, offers


def four_tables():
    """All tables of four demands and four offers of at least two demands each, but for the order of the offers."""
    wide = [offer for offer in subsets(range(4)) if len(offer) > 1]
    for offers in itertools.combinations_with_replacement(wide, 4):
        yield 4, offers


def random_table(source, demands, offers):
    return demands, tuple([source.choice(subsets(range(demands))) for number in range(offers)])


def random_tables(many, demands, offers):
    source = random.Random(1000 * demands + offers)
    return [random_table(source, demands, offers) for number in range(many)]


def random_data(source, table, greatest):
    prices = tuple([source.randint(0, greatest) for offer in table[1]])
    penalties = tuple([source.randint(0, greatest) for demand in range(table[0])])
    return prices, penalties


def edge_data(table):
    """Prices and penalties of the least and the greatest amounts."""
    offers, demands = len(table[1]), table[0]
    for price in (0, MAX_AMOUNT):
        for penalty in (0, MAX_AMOUNT):
            yield (price,) * offers, (penalty,) * demands
    yield tuple([MAX_AMOUNT * (at % 2) for at in range(offers)]), (MAX_AMOUNT,) * demands
    yield (MAX_AMOUNT,) * offers, tuple([MAX_AMOUNT * (at % 2) for at in range(demands)])


def cycle(many):
    """A table that is one ring of that many demands and offers."""
    return many, tuple([tuple(sorted((at, (at + 1) % many))) for at in range(many)])


# Every order of these is nested.
FREE_TABLES = (
    (MAX_DEMANDS, ()),
    (MAX_DEMANDS, ((),) * MAX_OFFERS),
    (MAX_DEMANDS, (ALL,) * MAX_OFFERS),
    (MAX_DEMANDS, tuple([(demand,) for demand in ALL])),
    (MAX_DEMANDS, tuple([ALL[:many + 1] for many in range(MAX_OFFERS)])),
    (MAX_DEMANDS, ((0, 1, 2, 3), (4, 5, 6), (7, 8, 9), (0, 1), (4, 5), (7,), ALL, (), (8, 9), (0, 1))),
)

# These are orderable, but not every order is nested.
ORDERABLE_TABLES = (
    (MAX_DEMANDS, tuple([(at, at + 1) for at in range(MAX_DEMANDS - 1)]) + (ALL,)),
    (MAX_DEMANDS, tuple([ALL[at // 2:at // 2 + 5] for at in range(MAX_OFFERS)])),
    (MAX_DEMANDS, tuple([(0, at) for at in range(1, MAX_DEMANDS)]) + ((),)),
    (MAX_DEMANDS, ((0, 9), (9,), (1, 9), (2, 9), (2, 3, 9), (4, 9), (4, 5, 6, 9), (4, 5, 9), (7, 9), (8, 9))),
)

RING_TABLES = (
    cycle(MAX_DEMANDS),
    (MAX_DEMANDS, cycle(9)[1] + (ALL,)),
    (MAX_DEMANDS, tuple([tuple([demand for demand in ALL if demand != at]) for at in ALL])),
    (MAX_DEMANDS, ((8, 9), (7, 9), (7, 8), ALL, ALL, (), (0, 1), (0, 1), (1, 2), (3, 4, 5))),
    (MAX_DEMANDS, tuple([ALL[:max(0, at - 5)] + ALL[at:at + 5] for at in range(MAX_OFFERS)])),
)

LARGE_TABLES = FREE_TABLES + ORDERABLE_TABLES + RING_TABLES

# The edges: one demand, no offers, empty and equal offers.
EDGE_TABLES = (
    (1, ()), (1, ((),)), (1, ((0,),)), (1, ((0,), (0,))), (1, ((), (0,), ())), (2, ()), (2, ((0, 1), (0, 1))),
    (3, ((), (), ())), (3, ((0, 2), (), (0, 2), (1,))), (4, ((), (), (3,))), (1, ((0,),) * MAX_OFFERS),
    (1, ((),) * MAX_OFFERS),
)


def compared_tables():
    """The tables that are small enough for the plain searches over all orders."""
    yield from small_tables()
    yield from four_tables()
    yield from EDGE_TABLES
    yield from random_tables(30, 5, 3)
    yield from random_tables(40, 5, 5)
    yield from random_tables(10, 6, 4)


def data_for(tables, greatest):
    """Each table with prices and penalties that are made up, but always the same."""
    source = random.Random(7)
    return [(table, *random_data(source, table, greatest)) for table in tables]


def edge_cases():
    """The edge tables and the largest ones, with the least and the greatest amounts."""
    for table in (T, R) + EDGE_TABLES + LARGE_TABLES:
        for prices, penalties in edge_data(table):
            yield table, prices, penalties
