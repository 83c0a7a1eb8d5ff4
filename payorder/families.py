"""Tables from intervals, and from balls in trees. All of them have nested orders."""

from payorder.checks import is_amount, is_number_below, is_tuple_of
from payorder.errors import NoBalls, NoIntervals, NoVertex
from payorder.limits import MAX_DEMANDS, MAX_OFFERS


def interval_table(demands, intervals):
    """Return the table with that many demands in which each offer covers one interval of them."""
    if not isinstance(intervals, tuple) or len(intervals) > MAX_OFFERS:
        raise NoIntervals()
    if not all([is_interval(value, demands) for value in intervals]):
        raise NoIntervals()
    return demands, tuple([tuple(range(low, high + 1)) for low, high in intervals])


def is_interval(value, demands):
    """Return whether value is (low, high) with two of that many demands, low not above high."""
    return is_tuple_of(value, 2) and is_number_below(value[1], demands) and is_number_below(value[0], value[1] + 1)


def is_tree(value):
    """Return whether value is a tree."""
    if not isinstance(value, tuple) or len(value) > MAX_DEMANDS - 1:
        return False
    return all([is_edge(edge, index + 1) for index, edge in enumerate(value)])


def is_edge(value, vertex):
    """Return whether value is (parent, length) for that vertex of a tree."""
    return is_tuple_of(value, 2) and is_number_below(value[0], vertex) and is_amount(value[1]) and value[1] > 0


def tree_distance(tree, one, other):
    """Return the distance of two vertices."""
    for vertex in (one, other):
        if not is_vertex(tree, vertex):
            raise NoVertex(vertex)
    distance = 0
    while one != other:
        # A parent has a lower number, so the way leads up from the vertex with the greater one.
        one, other = min(one, other), max(one, other)
        other, length = tree[other - 1]
        distance += length
    return distance


def is_vertex(tree, value):
    """Return whether value is a vertex of the tree."""
    return is_number_below(value, len(tree) + 1)


def ball_table(tree, balls):
    """Return the table whose demands are the vertices, and in which each offer covers the vertices of one ball."""
    if not isinstance(balls, tuple) or len(balls) > MAX_OFFERS:
        raise NoBalls()
    if not all([is_ball(tree, value) for value in balls]):
        raise NoBalls()
    return len(tree) + 1, tuple([vertices_within(tree, center, radius) for center, radius in balls])


def is_ball(tree, value):
    """Return whether value is (center, radius) with a vertex of the tree and an amount."""
    return is_tuple_of(value, 2) and is_vertex(tree, value[0]) and is_amount(value[1])


def vertices_within(tree, center, radius):
    """Return the ascending tuple of the vertices whose distance from center is at most radius."""
    return tuple([vertex for vertex in range(len(tree) + 1) if tree_distance(tree, center, vertex) <= radius])


def farthest_first(tree):
    """Return the tuple of all vertices by descending depth, then by ascending number."""
    rows = [(-tree_distance(tree, 0, vertex), vertex) for vertex in range(len(tree) + 1)]
    return tuple([vertex for depth, vertex in sorted(rows)])
