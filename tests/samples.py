"""Values and checks that several tests share."""

import copy

T = (3, ((0, 1), (1, 2)))
R = (3, ((0, 1), (1, 2), (0, 2)))

LONG = int("9" * 60)


def deep_list(levels):
    value = []
    for level in range(levels):
        value = [value]
    return value


def deep_tuple(levels):
    value = ()
    for level in range(levels):
        value = (value,)
    return value


# None of these is an integer, nor a tuple of integers that is not empty.
ODD_VALUES = (
    None, True, False, "", "0", "1", "a", "ab\ncd", "~" * 5000, [], [0], [0, 1], [True], {}, {0: 1}, {"demand": 0},
    {(0, 1): [2]}, ((),), ((0,),), (None,), ("0",), ([],), ({},), (0, "1"), (0, None), (0, (1,)), (0, [1]),
    deep_list(18), deep_tuple(18), [0] * 1999,
)

# None of these tuples consists of the numbers of demands or offers in ascending order, in any table.
NOT_ASCENDING = (
    (1, 0), (0, 0), (2, 1), (0, 2, 1), (1, 1, 2), (0, 1, 1), (-1,), (-1, 0), (-2, -1), (10,), (0, 10), (LONG,),
    (-LONG,), (0, LONG), (True,), (False,), (0, True), (False, 1), (True, 2), (0, True, 2), (0,) * 2000,
    tuple(range(2000)),
)


def outcome(call, *arguments):
    """The result of a call, or the class of its exception with the attributes."""
    try:
        return "returned", call(*arguments)
    except ValueError as error:
        return "raised", type(error), vars(error)


def same(one, other):
    """Equality that tells truth values from integers, and lists from tuples."""
    return repr(one) == repr(other)


def leaves_arguments(call, *arguments):
    """Whether a call changes no argument and gives the same when repeated."""
    before = copy.deepcopy(arguments)
    first = outcome(call, *arguments)
    second = outcome(call, *arguments)
    return same(arguments, before) and same(first, second)


def other_kinds(value):
    """Values like a correct one, in which one part is of another kind, so that none of them is correct."""
    if isinstance(value, str):
        return [None, True, value.upper(), value + " ", "", (value,), [value], 0]
    if not isinstance(value, tuple):
        return [None, True, False, str(value), "", (), (value,), [value], {value: value}, -1, -LONG, LONG]
    found = [None, True, False, 0, str(value), list(value), dict(enumerate(value)), (value,), [value], {}]
    for at, part in enumerate(value):
        found.extend([value[:at] + (other,) + value[at + 1:] for other in other_kinds(part)])
    return found


def other_lengths(value):
    """Tuples like a correct one that are too short or too long."""
    return [value[:many] for many in range(len(value))] + [value + value[-1:], value + (None,), value + value]


def not_orders(demands):
    """Values that are no order of a table with that many demands."""
    order = tuple(range(demands))
    wrong = [*ODD_VALUES, (), 0, 1, LONG, (-1,) + order[1:], order[:-1] + (demands,)]
    wrong.extend([value for value in NOT_ASCENDING if not same(sorted(value), list(order))])
    wrong.extend(other_kinds(order))
    wrong.extend(other_lengths(order))
    if demands > 1:
        wrong.extend([order[:-1] + (0,), (demands - 1,) + order[1:], (True,) * demands, list(order), set_apart(order)])
    return wrong


def set_apart(order):
    """The order in two halves, each a tuple of its own."""
    return order[:len(order) // 2], order[len(order) // 2:]
