"""The examples of the document, as they stand there, each under the number of its point."""

EXAMPLES = {
    6: """
>>> from payorder.tables import is_table
>>> T = (3, ((0, 1), (1, 2)))
>>> is_table(T)
True
>>> is_table((3, ((1, 0),)))
False
""",
    7: """
>>> from payorder.tables import covering_offers
>>> T = (3, ((0, 1), (1, 2)))
>>> covering_offers(T, 1)
(0, 1)
>>> covering_offers(T, 3)
raises NoDemand(3)
""",
    8: """
>>> from payorder.tables import restrict_demands
>>> T = (3, ((0, 1), (1, 2)))
>>> restrict_demands(T, (1, 2))
(2, ((0,), (0, 1)))
>>> restrict_demands(T, ())
raises NoDemands
""",
    9: """
>>> from payorder.tables import add_offer
>>> T = (3, ((0, 1), (1, 2)))
>>> R = (3, ((0, 1), (1, 2), (0, 2)))
>>> add_offer(T, (0, 2)) == R
True
>>> add_offer(T, (2, 0))
raises NoDemands
""",
    10: """
>>> from payorder.tables import remove_offer
>>> T = (3, ((0, 1), (1, 2)))
>>> remove_offer(T, 0)
(3, ((1, 2),))
>>> remove_offer(T, 2)
raises NoOffer(2)
""",
    11: """
>>> from payorder.tables import transpose
>>> T = (3, ((0, 1), (1, 2)))
>>> transpose(T)
(2, ((0,), (0, 1), (1,)))
>>> transpose((2, ()))
raises NoOffers
""",
    13: """
>>> from payorder.orders import simple_demands
>>> T = (3, ((0, 1), (1, 2)))
>>> simple_demands(T, (0, 1, 2))
(0, 2)
>>> R = (3, ((0, 1), (1, 2), (0, 2)))
>>> simple_demands(R, (0, 1, 2))
()
""",
    14: """
>>> from payorder.orders import is_nested_order
>>> T = (3, ((0, 1), (1, 2)))
>>> is_nested_order(T, (0, 1, 2))
True
>>> is_nested_order(T, (1, 0, 2))
False
""",
    15: """
>>> from payorder.orders import find_conflict
>>> T = (3, ((0, 1), (1, 2)))
>>> find_conflict(T, (0, 1, 2))
None
>>> find_conflict(T, (0, 1, 1))
raises NoOrder
""",
    16: """
>>> from payorder.orders import is_conflict
>>> T = (3, ((0, 1), (1, 2)))
>>> is_conflict(T, (1, 0, 2), (1, 0, 2, 0, 1))
True
>>> is_conflict(T, (0, 1, 2), (1, 0, 2, 0, 1))
False
""",
    17: """
>>> from payorder.orders import first_nested_order
>>> T = (3, ((0, 1), (1, 2)))
>>> first_nested_order(T)
(0, 1, 2)
>>> R = (3, ((0, 1), (1, 2), (0, 2)))
>>> first_nested_order(R)
raises NotOrderable
""",
    18: """
>>> from payorder.orders import sort_offers
>>> T = (3, ((0, 1), (1, 2)))
>>> sort_offers(T, (0, 1, 2))
(0, 1)
>>> sort_offers(T, (2, 1, 0))
(1, 0)
""",
    19: """
>>> from payorder.orders import count_nested_orders
>>> T = (3, ((0, 1), (1, 2)))
>>> count_nested_orders(T)
4
>>> R = (3, ((0, 1), (1, 2), (0, 2)))
>>> count_nested_orders(R)
0
""",
    20: """
>>> from payorder.orders import nested_order_at
>>> T = (3, ((0, 1), (1, 2)))
>>> nested_order_at(T, 2)
(2, 0, 1)
>>> nested_order_at(T, 4)
raises NoIndex(4)
""",
    21: """
>>> from payorder.orders import nested_order_index
>>> T = (3, ((0, 1), (1, 2)))
>>> nested_order_index(T, (2, 1, 0))
3
>>> nested_order_index(T, (1, 0, 2))
raises NoOrder
""",
    23: """
>>> from payorder.rings import is_ring
>>> R = (3, ((0, 1), (1, 2), (0, 2)))
>>> is_ring(R, ((0, 1, 2), (0, 1, 2)))
True
>>> is_ring(R, ((0, 1, 2), (1, 0, 2)))
False
""",
    24: """
>>> from payorder.rings import find_ring
>>> T = (3, ((0, 1), (1, 2)))
>>> find_ring(T)
None
""",
    25: """
>>> from payorder.rings import certificate
>>> T = (3, ((0, 1), (1, 2)))
>>> certificate(T)
('order', (0, 1, 2))
""",
    26: """
>>> from payorder.rings import is_certificate
>>> T = (3, ((0, 1), (1, 2)))
>>> is_certificate(T, ('order', (2, 1, 0)))
True
>>> R = (3, ((0, 1), (1, 2), (0, 2)))
>>> is_certificate(R, ('ring', ((1, 2, 0), (1, 2, 0))))
True
""",
    28: """
>>> from payorder.payments import choice_cost
>>> T = (3, ((0, 1), (1, 2)))
>>> choice_cost(T, (3, 4), (5, 1, 2), (0,))
5
>>> choice_cost(T, (3, 4), (5, 1, 2), (2,))
raises NoChoice
""",
    29: """
>>> from payorder.payments import cheapest_cost
>>> T = (3, ((0, 1), (1, 2)))
>>> cheapest_cost(T, (3, 4), (5, 1, 2))
5
""",
    30: """
>>> from payorder.payments import is_collection
>>> T = (3, ((0, 1), (1, 2)))
>>> is_collection(T, (3, 4), (5, 1, 2), (3, 0, 2))
True
>>> is_collection(T, (3, 4), (5, 1, 2), (3, 1, 2))
False
""",
    31: """
>>> from payorder.payments import pay_along
>>> T = (3, ((0, 1), (1, 2)))
>>> pay_along(T, (3, 4), (5, 1, 2), (0, 1, 2))
(3, 0, 2)
>>> pay_along(T, (3, 4), (5, 1, 2), (1, 0, 2))
(2, 1, 2)
""",
    32: """
>>> from payorder.payments import choose_full
>>> T = (3, ((0, 1), (1, 2)))
>>> choose_full(T, (3, 4), (5, 1, 2), (0, 1, 2))
(0,)
>>> choose_full((1, ((), (0,))), (0, 5), (3,), (0,))
(0,)
>>> choose_full(T, (3, 4), (5, 1, 2), (1, 0, 2))
raises NoOrder
""",
    33: """
>>> from payorder.payments import solve
>>> T = (3, ((0, 1), (1, 2)))
>>> solve(T, (3, 4), (5, 1, 2))[0]
5
>>> R = (3, ((0, 1), (1, 2), (0, 2)))
>>> solve(R, (1, 1, 1), (1, 1, 1))
raises NotOrderable
""",
    34: """
>>> from payorder.payments import is_solution
>>> T = (3, ((0, 1), (1, 2)))
>>> is_solution(T, (3, 4), (5, 1, 2), (5, (0,), (2, 1, 2)))
True
>>> is_solution(T, (3, 4), (5, 1, 2), (5, (0,), (2, 0, 2)))
False
""",
    36: """
>>> from payorder.failures import find_failure
>>> T = (3, ((0, 1), (1, 2)))
>>> find_failure(T, (0, 1, 2))
None
>>> find_failure(T, (0, 1))
raises NoOrder
""",
    37: """
>>> from payorder.failures import is_failure
>>> T = (3, ((0, 1), (1, 2)))
>>> is_failure(T, (1, 0, 2), ((1, 1), (1, 1, 1), (1, 0, 1)))
True
>>> is_failure(T, (1, 0, 2), ((1, 1), (1, 1, 1), (0, 1, 0)))
False
""",
    39: """
>>> from payorder.covers import is_cover
>>> T = (3, ((0, 1), (1, 2)))
>>> is_cover(T, (0, 1))
True
>>> is_cover(T, (0,))
False
""",
    40: """
>>> from payorder.covers import are_separate
>>> T = (3, ((0, 1), (1, 2)))
>>> are_separate(T, (0, 2))
True
>>> are_separate(T, (0, 1))
False
""",
    41: """
>>> from payorder.covers import smallest_cover
>>> T = (3, ((0, 1), (1, 2)))
>>> smallest_cover(T)
((0, 1), (0, 2))
>>> smallest_cover((2, ((0,),)))
raises NotCovered(1)
""",
    42: """
>>> from payorder.covers import cheapest_cover_cost
>>> T = (3, ((0, 1), (1, 2)))
>>> cheapest_cover_cost(T, (3, 4))
7
>>> R = (3, ((0, 1), (1, 2), (0, 2)))
>>> cheapest_cover_cost(R, (3, 4, 5))
7
""",
    44: """
>>> from payorder.variables import cost_by_price
>>> T = (3, ((0, 1), (1, 2)))
>>> cost_by_price(T, (3, 4), (5, 1, 2), 0)
(2, 8)
>>> cost_by_price(T, (3, 4), (5, 1, 2), 2)
raises NoOffer(2)
""",
    45: """
>>> from payorder.variables import cost_by_penalty
>>> T = (3, ((0, 1), (1, 2)))
>>> cost_by_penalty(T, (3, 4), (5, 1, 2), 0)
(3, 5)
>>> cost_by_penalty((1, ()), (), (7,), 0)
(0, None)
""",
    47: """
>>> from payorder.families import interval_table
>>> T = (3, ((0, 1), (1, 2)))
>>> interval_table(3, ((0, 1), (1, 2))) == T
True
>>> interval_table(3, ((2, 1),))
raises NoIntervals
""",
    48: """
>>> from payorder.families import is_tree
>>> is_tree(((0, 1), (1, 1)))
True
>>> is_tree(((1, 1),))
False
""",
    49: """
>>> from payorder.families import tree_distance
>>> tree_distance(((0, 1), (1, 5), (0, 2)), 2, 3)
8
>>> tree_distance((), 0, 1)
raises NoVertex(1)
""",
    50: """
>>> from payorder.families import ball_table
>>> T = (3, ((0, 1), (1, 2)))
>>> ball_table(((0, 1), (1, 1)), ((0, 1), (2, 1))) == T
True
>>> ball_table((), ((0, -1),))
raises NoBalls
""",
    51: """
>>> from payorder.families import farthest_first
>>> farthest_first(((0, 1), (1, 5), (0, 2)))
(2, 3, 1, 0)
""",
    53: """
>>> from payorder.lines import is_line
>>> L = (((0, 9, 2),), ((0, 4, 5), (3, 9, 100)))
>>> is_line(L)
True
>>> is_line((((0, 9, 2), (9, 12, 1)), ()))
False
""",
    54: """
>>> from payorder.lines import line_payments
>>> L = (((0, 9, 2),), ((0, 4, 5), (3, 9, 100)))
>>> line_payments(L)
((0, 1, 2), (2, 2, 1), (3, 4, 0), (5, 9, 2))
>>> line_payments((((0, 4, 2), (5, 9, 2)), ()))
((0, 9, 2),)
""",
    55: """
>>> from payorder.lines import line_payment
>>> L = (((0, 9, 2),), ((0, 4, 5), (3, 9, 100)))
>>> line_payment(L, 2)
1
>>> line_payment(L, 10)
raises NoPosition(10)
""",
    56: """
>>> from payorder.lines import line_cost
>>> L = (((0, 9, 2),), ((0, 4, 5), (3, 9, 100)))
>>> line_cost(L)
15
""",
    57: """
>>> from payorder.lines import line_choice
>>> L = (((0, 9, 2),), ((0, 4, 5), (3, 9, 100)))
>>> line_choice(L)
(0,)
""",
    58: """
>>> from payorder.lines import line_table
>>> L = (((0, 9, 2),), ((0, 4, 5), (3, 9, 100)))
>>> line_table(L, (0, 3))
((2, ((0, 1), (1,))), (5, 100), (2, 2))
>>> line_table(L, (3, 0))
raises NoPositions
""",
    60: """
>>> from payorder.sessions import Session
>>> T = (3, ((0, 1), (1, 2)))
>>> s = Session(T, (3, 4), (5, 1, 2))
>>> str(s)
'3 demands, 2 offers, cost 5'
>>> Session(T, (3,), (5, 1, 2))
raises BadPrices
""",
    61: """
>>> from payorder.sessions import GuardedSession
>>> T = (3, ((0, 1), (1, 2)))
>>> s = GuardedSession(T, (3, 4), (5, 1, 2))
>>> s.add_offer(1, (0, 2))
raises Blocked
""",
    62: """
>>> from payorder.sessions import Session
>>> T = (3, ((0, 1), (1, 2)))
>>> s = Session(T, (3, 4), (5, 1, 2))
>>> s.add_demand(9, (0,))
>>> s.table()
(4, ((0, 1, 3), (1, 2)))
""",
    63: """
>>> from payorder.sessions import Session
>>> T = (3, ((0, 1), (1, 2)))
>>> s = Session(T, (3, 4), (5, 1, 2))
>>> s.remove_demand(0)
>>> (s.table(), s.penalties())
((2, ((0,), (0, 1))), (1, 2))
""",
    64: """
>>> from payorder.sessions import Session
>>> T = (3, ((0, 1), (1, 2)))
>>> R = (3, ((0, 1), (1, 2), (0, 2)))
>>> s = Session(T, (3, 4), (5, 1, 2))
>>> s.add_offer(1, (0, 2))
>>> (s.table() == R, s.prices())
(True, (3, 4, 1))
""",
    65: """
>>> from payorder.sessions import Session
>>> T = (3, ((0, 1), (1, 2)))
>>> s = Session(T, (3, 4), (5, 1, 2))
>>> s.remove_offer(0)
>>> (s.table(), s.prices())
((3, ((1, 2),)), (4,))
""",
    66: """
>>> from payorder.sessions import Session
>>> T = (3, ((0, 1), (1, 2)))
>>> s = Session(T, (3, 4), (5, 1, 2))
>>> s.set_price(0, -1)
raises NoAmount(-1)
""",
    67: """
>>> from payorder.sessions import Session
>>> T = (3, ((0, 1), (1, 2)))
>>> s = Session(T, (3, 4), (5, 1, 2))
>>> s.set_penalty(0, 0)
>>> s.cost()
3
""",
    68: """
>>> from payorder.sessions import Session
>>> T = (3, ((0, 1), (1, 2)))
>>> s = Session(T, (3, 4), (5, 1, 2))
>>> s.undo()
raises NothingToUndo
""",
    69: """
>>> from payorder.sessions import Session
>>> T = (3, ((0, 1), (1, 2)))
>>> s = Session(T, (3, 4), (5, 1, 2))
>>> s.apply_all([('set_price', 0, 9), ('remove_offer', 2)])
raises Failed(1)
>>> s = Session(T, (3, 4), (5, 1, 2))
>>> s.apply_all([('set_price', 0, 9), ('remove_offer', 1)])
>>> (len(s), s.prices(), s.cost())
(2, (9,), 8)
""",
    70: """
>>> from payorder.sessions import Session
>>> T = (3, ((0, 1), (1, 2)))
>>> s = Session(T, (3, 4), (5, 1, 2))
>>> s.set_price(0, 9)
>>> s.undo()
>>> s.log()
(('set_price', 'done'), ('undo', 'done'))
""",
    71: """
>>> from payorder.sessions import Session
>>> T = (3, ((0, 1), (1, 2)))
>>> s = Session(T, (3, 4), (5, 1, 2))
>>> s.set_price(0, 9)
>>> (s.prices(), s.prices(at=0), s.penalties())
((9, 4), (3, 4), (5, 1, 2))
""",
    72: """
>>> from payorder.sessions import Session
>>> T = (3, ((0, 1), (1, 2)))
>>> Session(T, (3, 4), (5, 1, 2)).certificate()
('order', (0, 1, 2))
""",
    73: """
>>> from payorder.sessions import Session
>>> R = (3, ((0, 1), (1, 2), (0, 2)))
>>> Session(R, (1, 1, 1), (1, 1, 1)).cost()
2
""",
    74: """
>>> from payorder.sessions import Session
>>> T = (3, ((0, 1), (1, 2)))
>>> s = Session(T, (3, 4), (5, 1, 2))
>>> (s.payments(), s.choice())
((3, 0, 2), (0,))
""",
    75: """
>>> from payorder.sessions import Session
>>> T = (3, ((0, 1), (1, 2)))
>>> s = Session(T, (3, 4), (5, 1, 2))
>>> s.clone() == s
True
""",
    78: """
>>> from payorder.texts import format_data
>>> T = (3, ((0, 1), (1, 2)))
>>> format_data(T, (3, 4), (5, 1, 2))
'demand 5\\ndemand 1\\ndemand 2\\noffer 3 0 1\\noffer 4 1 2\\n'
""",
    79: """
>>> from payorder.texts import parse_data
>>> parse_data('demand 7\\noffer 4\\n')
((1, ((),)), (4,), (7,))
>>> parse_data('demand 7\\noffer 4 1\\n')
raises BadText(1)
>>> parse_data('demand 7')
raises BadText(0)
>>> parse_data('')
raises BadText(0)
""",
    80: """
>>> from payorder.texts import format_order
>>> format_order((2, 0, 1))
'2>0>1'
""",
    81: """
>>> from payorder.texts import parse_order
>>> parse_order('2>0>1')
(2, 0, 1)
>>> parse_order('0>2')
raises BadText(0)
""",
    82: """
>>> from payorder.consoles import Console
>>> from payorder.sessions import Session
>>> T = (3, ((0, 1), (1, 2)))
>>> s = Session(T, (3, 4), (5, 1, 2))
>>> c = Console(s)
>>> answer = c.execute('set_price 0 9')
>>> (answer, s.prices())
('done', (9, 4))
""",
    83: """
>>> from payorder.consoles import Console
>>> from payorder.sessions import Session
>>> T = (3, ((0, 1), (1, 2)))
>>> c = Console(Session(T, (3, 4), (5, 1, 2)))
>>> (c.execute('order'), c.execute('choice'), c.execute('remove_offer 2'), c.execute('order 1'))
('0>1>2', '0', 'error NoOffer', 'syntax error')
""",
    84: """
>>> from payorder.consoles import Console
>>> from payorder.sessions import Session
>>> T = (3, ((0, 1), (1, 2)))
>>> c = Console(Session(T, (3, 4), (5, 1, 2)))
>>> one = c.execute('undo')
>>> other = c.execute(None)
>>> c.history()
(('undo', 'error NothingToUndo'), (None, 'syntax error'))
""",
}
