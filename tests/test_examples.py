"""The examples of the document, as they stand there, each under the number of its point."""

import unittest

EXAMPLES = {
    6: """
>>> from payorder.tables import is_table
>>> T = (3, ((0, 1), (1, 2)))
>>> is_table(T)
True
>>> is_table((3, ((1, 0),)))
False
""",
    7: """
>>> from payorder.tables import covering_offers
>>> T = (3, ((0, 1), (1, 2)))
>>> covering_offers(T, 1)
(0, 1)
>>> covering_offers(T, 3)
raises NoDemand(3)
""",
    8: """
>>> from payorder.tables import restrict_demands
>>> T = (3, ((0, 1), (1, 2)))
>>> restrict_demands(T, (1, 2))
(2, ((0,), (0, 1)))
>>> restrict_demands(T, ())
raises NoDemands
""",
    9: """
>>> from payorder.tables import add_offer
>>> T = (3, ((0, 1), (1, 2)))
>>> R = (3, ((0, 1), (1, 2), (0, 2)))
>>> add_offer(T, (0, 2)) == R
True
>>> add_offer(T, (2, 0))
raises NoDemands
""",
    10: """
>>> from payorder.tables import remove_offer
>>> T = (3, ((0, 1), (1, 2)))
>>> remove_offer(T, 0)
(3, ((1, 2),))
>>> remove_offer(T, 2)
raises NoOffer(2)
""",
    11: """
>>> from payorder.tables import transpose
>>> T = (3, ((0, 1), (1, 2)))
>>> transpose(T)
(2, ((0,), (0, 1), (1,)))
>>> transpose((2, ()))
raises NoOffers
""",
    13: """
>>> from payorder.orders import simple_demands
>>> T = (3, ((0, 1), (1, 2)))
>>> simple_demands(T, (0, 1, 2))
(0, 2)
>>> R = (3, ((0, 1), (1, 2), (0, 2)))
>>> simple_demands(R, (0, 1, 2))
()
""",
    14: """
>>> from payorder.orders import is_nested_order
>>> T = (3, ((0, 1), (1, 2)))
>>> is_nested_order(T, (0, 1, 2))
True
>>> is_nested_order(T, (1, 0, 2))
False
""",
    15: """
>>> from payorder.orders import find_conflict
>>> T = (3, ((0, 1), (1, 2)))
>>> find_conflict(T, (0, 1, 2))
None
>>> find_conflict(T, (0, 1, 1))
raises NoOrder
""",
    16: """
>>> from payorder.orders import is_conflict
>>> T = (3, ((0, 1), (1, 2)))
>>> is_conflict(T, (1, 0, 2), (1, 0, 2, 0, 1))
True
>>> is_conflict(T, (0, 1, 2), (1, 0, 2, 0, 1))
False
""",
    17: """
>>> from payorder.orders import first_nested_order
>>> T = (3, ((0, 1), (1, 2)))
>>> first_nested_order(T)
(0, 1, 2)
>>> R = (3, ((0, 1), (1, 2), (0, 2)))
>>> first_nested_order(R)
raises NotOrderable
""",
    18: """
>>> from payorder.orders import sort_offers
>>> T = (3, ((0, 1), (1, 2)))
>>> sort_offers(T, (0, 1, 2))
(0, 1)
>>> sort_offers(T, (2, 1, 0))
(1, 0)
""",
    19: """
>>> from payorder.orders import count_nested_orders
>>> T = (3, ((0, 1), (1, 2)))
>>> count_nested_orders(T)
4
>>> R = (3, ((0, 1), (1, 2), (0, 2)))
>>> count_nested_orders(R)
0
""",
    20: """
>>> from payorder.orders import nested_order_at
>>> T = (3, ((0, 1), (1, 2)))
>>> nested_order_at(T, 2)
(2, 0, 1)
>>> nested_order_at(T, 4)
raises NoIndex(4)
""",
    21: """
>>> from payorder.orders import nested_order_index
>>> T = (3, ((0, 1), (1, 2)))
>>> nested_order_index(T, (2, 1, 0))
3
>>> nested_order_index(T, (1, 0, 2))
raises NoOrder
""",
    23: """
>>> from payorder.rings import is_ring
>>> R = (3, ((0, 1), (1, 2), (0, 2)))
>>> is_ring(R, ((0, 1, 2), (0, 1, 2)))
True
>>> is_ring(R, ((0, 1, 2), (1, 0, 2)))
False
""",
    24: """
>>> from payorder.rings import find_ring
>>> T = (3, ((0, 1), (1, 2)))
>>> find_ring(T)
None
""",
    25: """
>>> from payorder.rings import certificate
>>> T = (3, ((0, 1), (1, 2)))
>>> certificate(T)
('order', (0, 1, 2))
""",
    26: """
>>> from payorder.rings import is_certificate
>>> T = (3, ((0, 1), (1, 2)))
>>> is_certificate(T, ('order', (2, 1, 0)))
True
>>> R = (3, ((0, 1), (1, 2), (0, 2)))
>>> is_certificate(R, ('ring', ((1, 2, 0), (1, 2, 0))))
True
""",
    28: """
>>> from payorder.payments import choice_cost
>>> T = (3, ((0, 1), (1, 2)))
>>> choice_cost(T, (3, 4), (5, 1, 2), (0,))
5
>>> choice_cost(T, (3, 4), (5, 1, 2), (2,))
raises NoChoice
""",
    29: """
>>> from payorder.payments import cheapest_cost
>>> T = (3, ((0, 1), (1, 2)))
>>> cheapest_cost(T, (3, 4), (5, 1, 2))
5
""",
    30: """
>>> from payorder.payments import is_collection
>>> T = (3, ((0, 1), (1, 2)))
>>> is_collection(T, (3, 4), (5, 1, 2), (3, 0, 2))
True
>>> is_collection(T, (3, 4), (5, 1, 2), (3, 1, 2))
False
""",
    31: """
>>> from payorder.payments import pay_along
>>> T = (3, ((0, 1), (1, 2)))
>>> pay_along(T, (3, 4), (5, 1, 2), (0, 1, 2))
(3, 0, 2)
>>> pay_along(T, (3, 4), (5, 1, 2), (1, 0, 2))
(2, 1, 2)
""",
    32: """
>>> from payorder.payments import choose_full
>>> T = (3, ((0, 1), (1, 2)))
>>> choose_full(T, (3, 4), (5, 1, 2), (0, 1, 2))
(0,)
>>> choose_full((1, ((), (0,))), (0, 5), (3,), (0,))
(0,)
>>> choose_full(T, (3, 4), (5, 1, 2), (1, 0, 2))
raises NoOrder
""",
    33: """
>>> from payorder.payments import solve
>>> T = (3, ((0, 1), (1, 2)))
>>> solve(T, (3, 4), (5, 1, 2))[0]
5
>>> R = (3, ((0, 1), (1, 2), (0, 2)))
>>> solve(R, (1, 1, 1), (1, 1, 1))
raises NotOrderable
""",
    34: """
>>> from payorder.payments import is_solution
>>> T = (3, ((0, 1), (1, 2)))
>>> is_solution(T, (3, 4), (5, 1, 2), (5, (0,), (2, 1, 2)))
True
>>> is_solution(T, (3, 4), (5, 1, 2), (5, (0,), (2, 0, 2)))
False
""",
    36: """
>>> from payorder.failures import find_failure
>>> T = (3, ((0, 1), (1, 2)))
>>> find_failure(T, (0, 1, 2))
None
>>> find_failure(T, (0, 1))
raises NoOrder
""",
    37: """
>>> from payorder.failures import is_failure
>>> T = (3, ((0, 1), (1, 2)))
>>> is_failure(T, (1, 0, 2), ((1, 1), (1, 1, 1), (1, 0, 1)))
True
>>> is_failure(T, (1, 0, 2), ((1, 1), (1, 1, 1), (0, 1, 0)))
False
""",
}


def statements(text):
    """Pairs of a line of code and the line that the document shows below it, or None."""
    pairs = []
    for line in text.strip().split("\n"):
        if line.startswith(">>> "):
            pairs.append((line[4:], None))
        else:
            pairs[-1] = (pairs[-1][0], line)
    return pairs


def is_expression(code):
    try:
        compile(code, "example", "eval")
    except SyntaxError:
        return False
    return True


def shown(error, expected):
    """The exception as the document shows it: with its arguments if it shows them."""
    name = type(error).__name__
    if "(" not in expected:
        return f"raises {name}"
    return f"raises {name}({', '.join([repr(argument) for argument in vars(error).values()])})"


def answer(code, names, expected):
    """What the document would show below a line of code."""
    if not is_expression(code):
        exec(code, names)
        return None
    try:
        result = eval(code, names)
    except ValueError as error:
        return shown(error, expected or "")
    # The document shows None where a result is expected, and nothing below an operation.
    return None if result is None and expected is None else repr(result)


class TestExamples(unittest.TestCase):
    def test_examples(self):
        for point, text in EXAMPLES.items():
            names = {}
            for code, expected in statements(text):
                with self.subTest(point=point, code=code):
                    self.assertEqual(answer(code, names, expected), expected)

    def test_every_point_has_results(self):
        for point, text in EXAMPLES.items():
            self.assertTrue([expected for code, expected in statements(text) if expected is not None], point)


if __name__ == "__main__":
    unittest.main()
