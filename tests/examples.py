"""The examples of the document, as they stand there, each under the number of its point."""

EXAMPLES = {
    6: """
>>> from payorder.tables import is_table
>>> T = (3, ((0, 1), (1, 2)))
>>> is_table(T)
True
>>> is_table((3, ((1, 0),)))
False
""",
    7: """
>>> from payorder.tables import covering_offers
>>> T = (3, ((0, 1), (1, 2)))
>>> covering_offers(T, 1)
(0, 1)
>>> covering_offers(T, 3)
raises NoDemand(3)
""",
    8: """
>>> from payorder.tables import restrict_demands
>>> T = (3, ((0, 1), (1, 2)))
>>> restrict_demands(T, (1, 2))
(2, ((0,), (0, 1)))
>>> restrict_demands(T, ())
raises NoDemands
""",
    9: """
>>> from payorder.tables import add_offer
>>> T = (3, ((0, 1), (1, 2)))
>>> R = (3, ((0, 1), (1, 2), (0, 2)))
>>> add_offer(T, (0, 2)) == R
True
>>> add_offer(T, (2, 0))
raises NoDemands
""",
    10: """
>>> from payorder.tables import remove_offer
>>> T = (3, ((0, 1), (1, 2)))
>>> remove_offer(T, 0)
(3, ((1, 2),))
>>> remove_offer(T, 2)
raises NoOffer(2)
""",
    11: """
>>> from payorder.tables import transpose
>>> T = (3, ((0, 1), (1, 2)))
>>> transpose(T)
(2, ((0,), (0, 1), (1,)))
>>> transpose((2, ()))
raises NoOffers
""",
    13: """
>>> from payorder.orders import simple_demands
>>> T = (3, ((0, 1), (1, 2)))
>>> simple_demands(T, (0, 1, 2))
(0, 2)
>>> R = (3, ((0, 1), (1, 2), (0, 2)))
>>> simple_demands(R, (0, 1, 2))
()
""",
    14: """
>>> from payorder.orders import is_nested_order
>>> T = (3, ((0, 1), (1, 2)))
>>> is_nested_order(T, (0, 1, 2))
True
>>> is_nested_order(T, (1, 0, 2))
False
""",
    15: """
>>> from payorder.orders import find_conflict
>>> T = (3, ((0, 1), (1, 2)))
>>> find_conflict(T, (0, 1, 2))
None
>>> find_conflict(T, (0, 1, 1))
raises NoOrder
""",
    16: """
>>> from payorder.orders import is_conflict
>>> T = (3, ((0, 1), (1, 2)))
>>> is_conflict(T, (1, 0, 2), (1, 0, 2, 0, 1))
True
>>> is_conflict(T, (0, 1, 2), (1, 0, 2, 0, 1))
False
""",
    17: """
>>> from payorder.orders import first_nested_order
>>> T = (3, ((0, 1), (1, 2)))
>>> first_nested_order(T)
(0, 1, 2)
>>> R = (3, ((0, 1), (1, 2), (0, 2)))
>>> first_nested_order(R)
raises NotOrderable
""",
    18: """
>>> from payorder.orders import sort_offers
>>> T = (3, ((0, 1), (1, 2)))
>>> sort_offers(T, (0, 1, 2))
(0, 1)
>>> sort_offers(T, (2, 1, 0))
(1, 0)
""",
    19: """
>>> from payorder.orders import count_nested_orders
>>> T = (3, ((0, 1), (1, 2)))
>>> count_nested_orders(T)
4
>>> R = (3, ((0, 1), (1, 2), (0, 2)))
>>> count_nested_orders(R)
0
""",
    20: """
>>> from payorder.orders import nested_order_at
>>> T = (3, ((0, 1), (1, 2)))
>>> nested_order_at(T, 2)
(2, 0, 1)
>>> nested_order_at(T, 4)
raises NoIndex(4)
""",
    21: """
>>> from payorder.orders import nested_order_index
>>> T = (3, ((0, 1), (1, 2)))
>>> nested_order_index(T, (2, 1, 0))
3
>>> nested_order_index(T, (1, 0, 2))
raises NoOrder
""",
    23: """
>>> from payorder.rings import is_ring
>>> R = (3, ((0, 1), (1, 2), (0, 2)))
>>> is_ring(R, ((0, 1, 2), (0, 1, 2)))
True
>>> is_ring(R, ((0, 1, 2), (1, 0, 2)))
False
""",
    24: """
>>> from payorder.rings import find_ring
>>> T = (3, ((0, 1), (1, 2)))
>>> find_ring(T)
None
""",
    25: """
>>> from payorder.rings import certificate
>>> T = (3, ((0, 1), (1, 2)))
>>> certificate(T)
('order', (0, 1, 2))
""",
    26: """
>>> from payorder.rings import is_certificate
>>> T = (3, ((0, 1), (1, 2)))
>>> is_certificate(T, ('order', (2, 1, 0)))
True
>>> R = (3, ((0, 1), (1, 2), (0, 2)))
>>> is_certificate(R, ('ring', ((1, 2, 0), (1, 2, 0))))
True
""",
    28: """
>>> from payorder.payments import choice_cost
>>> T = (3, ((0, 1), (1, 2)))
>>> choice_cost(T, (3, 4), (5, 1, 2), (0,))
5
>>> choice_cost(T, (3, 4), (5, 1, 2), (2,))
raises NoChoice
""",
    29: """
>>> from payorder.payments import cheapest_cost
>>> T = (3, ((0, 1), (1, 2)))
>>> cheapest_cost(T, (3, 4), (5, 1, 2))
5
""",
    30: """
>>> from payorder.payments import is_collection
>>> T = (3, ((0, 1), (1, 2)))
>>> is_collection(T, (3, 4), (5, 1, 2), (3, 0, 2))
True
>>> is_collection(T, (3, 4), (5, 1, 2), (3, 1, 2))
False
""",
    31: """
>>> from payorder.payments import pay_along
>>> T = (3, ((0, 1), (1, 2)))
>>> pay_along(T, (3, 4), (5, 1, 2), (0, 1, 2))
(3, 0, 2)
>>> pay_along(T, (3, 4), (5, 1, 2), (1, 0, 2))
(2, 1, 2)
""",
    32: """
>>> from payorder.payments import choose_full
>>> T = (3, ((0, 1), (1, 2)))
>>> choose_full(T, (3, 4), (5, 1, 2), (0, 1, 2))
(0,)
>>> choose_full((1, ((), (0,))), (0, 5), (3,), (0,))
(0,)
>>> choose_full(T, (3, 4), (5, 1, 2), (1, 0, 2))
raises NoOrder
""",
    33: """
>>> from payorder.payments import solve
>>> T = (3, ((0, 1), (1, 2)))
>>> solve(T, (3, 4), (5, 1, 2))[0]
5
>>> R = (3, ((0, 1), (1, 2), (0, 2)))
>>> solve(R, (1, 1, 1), (1, 1, 1))
raises NotOrderable
""",
    34: """
>>> from payorder.payments import is_solution
>>> T = (3, ((0, 1), (1, 2)))
>>> is_solution(T, (3, 4), (5, 1, 2), (5, (0,), (2, 1, 2)))
True
>>> is_solution(T, (3, 4), (5, 1, 2), (5, (0,), (2, 0, 2)))
False
""",
    36: """
>>> from payorder.failures import find_failure
>>> T = (3, ((0, 1), (1, 2)))
>>> find_failure(T, (0, 1, 2))
None
>>> find_failure(T, (0, 1))
raises NoOrder
""",
    37: """
>>> from payorder.failures import is_failure
>>> T = (3, ((0, 1), (1, 2)))
>>> is_failure(T, (1, 0, 2), ((1, 1), (1, 1, 1), (1, 0, 1)))
True
>>> is_failure(T, (1, 0, 2), ((1, 1), (1, 1, 1), (0, 1, 0)))
False
""",
    39: """
>>> from payorder.covers import is_cover
>>> T = (3, ((0, 1), (1, 2)))
>>> is_cover(T, (0, 1))
True
>>> is_cover(T, (0,))
False
""",
    40: """
>>> from payorder.covers import are_separate
>>> T = (3, ((0, 1), (1, 2)))
>>> are_separate(T, (0, 2))
True
>>> are_separate(T, (0, 1))
False
""",
    41: """
>>> from payorder.covers import smallest_cover
>>> T = (3, ((0, 1), (1, 2)))
>>> smallest_cover(T)
((0, 1), (0, 2))
>>> smallest_cover((2, ((0,),)))
raises NotCovered(1)
""",
    42: """
>>> from payorder.covers import cheapest_cover_cost
>>> T = (3, ((0, 1), (1, 2)))
>>> cheapest_cover_cost(T, (3, 4))
7
>>> R = (3, ((0, 1), (1, 2), (0, 2)))
>>> cheapest_cover_cost(R, (3, 4, 5))
7
""",
    44: """
>>> from payorder.variables import cost_by_price
>>> T = (3, ((0, 1), (1, 2)))
>>> cost_by_price(T, (3, 4), (5, 1, 2), 0)
(2, 8)
>>> cost_by_price(T, (3, 4), (5, 1, 2), 2)
raises NoOffer(2)
""",
    45: """
>>> from payorder.variables import cost_by_penalty
>>> T = (3, ((0, 1), (1, 2)))
>>> cost_by_penalty(T, (3, 4), (5, 1, 2), 0)
(3, 5)
>>> cost_by_penalty((1, ()), (), (7,), 0)
(0, None)
""",
    47: """
>>> from payorder.families import interval_table
>>> T = (3, ((0, 1), (1, 2)))
>>> interval_table(3, ((0, 1), (1, 2))) == T
True
>>> interval_table(3, ((2, 1),))
raises NoIntervals
""",
    48: """
>>> from payorder.families import is_tree
>>> is_tree(((0, 1), (1, 1)))
True
>>> is_tree(((1, 1),))
False
""",
    49: """
>>> from payorder.families import tree_distance
>>> tree_distance(((0, 1), (1, 5), (0, 2)), 2, 3)
8
>>> tree_distance((), 0, 1)
raises NoVertex(1)
""",
    50: """
>>> from payorder.families import ball_table
>>> T = (3, ((0, 1), (1, 2)))
>>> ball_table(((0, 1), (1, 1)), ((0, 1), (2, 1))) == T
True
>>> ball_table((), ((0, -1),))
raises NoBalls
""",
    51: """
>>> from payorder.families import farthest_first
>>> farthest_first(((0, 1), (1, 5), (0, 2)))
(2, 3, 1, 0)
""",
}
