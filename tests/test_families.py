"""Points 46 to 51: intervals and balls."""

import itertools
import random
import unittest

import plain
from cases import Case
from payorder import families
from payorder.errors import NoBalls, NoIntervals, NoVertex
from payorder.families import ball_table, farthest_first, interval_table, is_tree, tree_distance
from payorder.limits import MAX_AMOUNT, MAX_DEMANDS, MAX_OFFERS
from payorder.orders import first_nested_order, is_nested_order
from payorder.rings import find_ring
from payorder.tables import is_table
from plain import ALL
from samples import LONG, NOT_ASCENDING, ODD_VALUES, other_kinds, other_lengths

PATH = tuple([(at, 1) for at in range(MAX_DEMANDS - 1)])
STAR = ((0, 1),) * (MAX_DEMANDS - 1)
BRANCHES = ((0, 1), (1, 5), (0, 2))
LONG_PATH = tuple([(at, MAX_AMOUNT) for at in range(MAX_DEMANDS - 1)])
TREES = ((), ((0, 1),), ((0, MAX_AMOUNT),), BRANCHES, PATH, STAR, LONG_PATH)

NOT_VERTICES = ODD_VALUES + NOT_ASCENDING + ((), (0,), (0, 1), -1, -2, MAX_DEMANDS, LONG, -LONG)


def small_trees():
    """All trees of at most four vertices with edges of length 1 to 3."""
    for many in range(4):
        for parents in itertools.product(*[range(at + 1) for at in range(many)]):
            for lengths in itertools.product((1, 2, 3), repeat=many):
                yield tuple(zip(parents, lengths))


def random_trees(many, vertices, longest):
    source = random.Random(vertices + longest)
    for number in range(many):
        yield tuple([(source.randrange(at), source.randint(1, longest)) for at in range(1, vertices)])


def some_trees():
    yield from small_trees()
    yield from TREES
    yield from random_trees(30, 7, 4)
    yield from random_trees(30, MAX_DEMANDS, 3)
    yield from random_trees(10, MAX_DEMANDS, MAX_AMOUNT)


def distances(tree):
    """The distances by going along all edges again and again."""
    many = len(tree) + 1
    found = {(vertex, vertex): 0 for vertex in range(many)}
    for round_number in range(many):
        for at, (parent, length) in enumerate(tree):
            for one, other in ((parent, at + 1), (at + 1, parent)):
                for end in range(many):
                    if (one, end) in found and (other, end) not in found:
                        found[other, end] = found[one, end] + length
    return found


def random_balls(source, tree, many):
    longest = sum([length for parent, length in tree])
    return tuple([(source.randrange(len(tree) + 1), min(MAX_AMOUNT, source.randint(0, longest))) for ball in range(many)])


class TestInterface(Case):
    def test_names_and_parameters(self):
        self.assert_interface(families, {
            "interval_table": ["demands", "intervals"],
            "is_tree": ["value"],
            "tree_distance": ["tree", "one", "other"],
            "ball_table": ["tree", "balls"],
            "farthest_first": ["tree"],
        })

    def test_arguments_stay(self):
        for value in (*ODD_VALUES, ((0, 1),), [(0, 1)], ((0, 1), (1, 2))):
            self.assert_leaves(interval_table, 3, value)
            self.assert_leaves(is_tree, value)
            self.assert_leaves(ball_table, BRANCHES, value)
            self.assert_leaves(tree_distance, BRANCHES, value, 0)
            self.assert_leaves(tree_distance, BRANCHES, 0, value)
        for tree in TREES:
            self.assert_leaves(farthest_first, tree)

    def test_largest_are_quick(self):
        self.assert_quick(interval_table, MAX_DEMANDS, ((0, 9),) * MAX_OFFERS)
        for tree in (PATH, STAR, LONG_PATH, *random_trees(10, MAX_DEMANDS, MAX_AMOUNT)):
            self.assert_quick(is_tree, tree)
            self.assert_quick(tree_distance, tree, 9, 8)
            self.assert_quick(ball_table, tree, ((9, MAX_AMOUNT),) * MAX_OFFERS)
            self.assert_quick(farthest_first, tree)

    def test_somewhat_beyond_the_limits(self):
        tree = PATH + ((MAX_DEMANDS - 1, MAX_AMOUNT + 1),)
        self.assert_same(tree_distance(tree, 0, MAX_DEMANDS), MAX_AMOUNT + MAX_DEMANDS)
        self.assert_same(ball_table(tree, ((MAX_DEMANDS, 0),)), (MAX_DEMANDS + 1, ((MAX_DEMANDS,),)))
        self.assert_same(farthest_first(tree), tuple(range(MAX_DEMANDS + 1))[::-1])
        self.assert_same(interval_table(MAX_DEMANDS + 1, ((10, 10),)), (MAX_DEMANDS + 1, ((10,),)))


class TestIntervalTable(Case):
    def test_every_interval(self):
        for demands in range(1, MAX_DEMANDS + 1):
            for low in range(demands):
                for high in range(low, demands):
                    covered = tuple([demand for demand in range(demands) if low <= demand <= high])
                    self.assert_same(interval_table(demands, ((low, high),)), (demands, (covered,)))

    def test_several(self):
        self.assert_same(interval_table(4, ((2, 3), (0, 0), (0, 3), (2, 3))), (4, ((2, 3), (0,), (0, 1, 2, 3), (2, 3))))

    def test_no_intervals(self):
        for demands in range(1, MAX_DEMANDS + 1):
            self.assert_same(interval_table(demands, ()), (demands, ()))

    def test_as_many_as_possible(self):
        self.assert_same(interval_table(MAX_DEMANDS, ((0, 9),) * MAX_OFFERS), (MAX_DEMANDS, (ALL,) * MAX_OFFERS))
        self.assert_raises(NoIntervals, {}, interval_table, MAX_DEMANDS, ((0, 9),) * (MAX_OFFERS + 1))
        self.assert_raises(NoIntervals, {}, interval_table, 1, ((0, 0),) * 700)

    def test_ascending_is_nested(self):
        """Guarantee (g) for intervals."""
        source = random.Random(3)
        pairs = list(itertools.combinations_with_replacement(range(3), 2))
        tables = [interval_table(3, row) for row in itertools.product(pairs, repeat=3)]
        for number in range(200):
            ends = [sorted((source.randrange(10), source.randrange(10))) for interval in range(MAX_OFFERS)]
            tables.append(interval_table(MAX_DEMANDS, tuple([tuple(pair) for pair in ends])))
        for table in tables:
            order = tuple(range(table[0]))
            self.assertIs(is_table(table), True)
            self.assertTrue(plain.is_nested(table, order))
            self.assertIs(is_nested_order(table, order), True)
            self.assertIsNone(find_ring(table))

    def test_numbers_out_of_range(self):
        for demands in (1, 2, 5, MAX_DEMANDS):
            for pair in ((1, 0), (demands - 1, demands), (demands, demands), (-1, 0), (-1, -1), (0, LONG), (-LONG, 0),
                         (0, demands), (demands - 1, -1), (LONG, LONG)):
                self.assert_raises(NoIntervals, {}, interval_table, demands, (pair,))
                self.assert_raises(NoIntervals, {}, interval_table, demands, ((0, 0), pair))
                self.assert_raises(NoIntervals, {}, interval_table, demands, (pair, (0, 0)))

    def test_every_pair(self):
        for low, high in itertools.product(range(-1, 5), repeat=2):
            if not 0 <= low <= high < 4:
                self.assert_raises(NoIntervals, {}, interval_table, 4, ((low, high),))

    def test_truth_values(self):
        for pair in ((True, 2), (False, 1), (0, True), (False, False), (True, True), (0, False)):
            self.assert_raises(NoIntervals, {}, interval_table, 3, (pair,))

    def test_other_values(self):
        for value in [*ODD_VALUES, *NOT_ASCENDING, 0, 1, (0, 1), (0,), "01"]:
            self.assert_raises(NoIntervals, {}, interval_table, 3, value)
        right = ((0, 1), (1, 2))
        for value in other_kinds(right):
            self.assert_raises(NoIntervals, {}, interval_table, 3, value)
        for pair in other_lengths((0, 1)) + [[0, 1], "01", {0: 1, 1: 2}, None, 0, ()]:
            self.assert_raises(NoIntervals, {}, interval_table, 3, (pair,))
            self.assert_raises(NoIntervals, {}, interval_table, 3, ((0, 1), pair))


class TestIsTree(Case):
    def test_trees(self):
        for tree in some_trees():
            self.assertIs(is_tree(tree), True)

    def test_many_edges(self):
        for tree in (PATH, STAR, LONG_PATH):
            self.assertEqual(len(tree), MAX_DEMANDS - 1)
            self.assert_rejects(is_tree, tree + ((0, 1),))
            self.assert_rejects(is_tree, tree * 2)

    def test_parents(self):
        for at in range(MAX_DEMANDS - 1):
            for parent in range(-2, MAX_DEMANDS + 2):
                tree = STAR[:at] + ((parent, 1),) + STAR[at + 1:]
                self.assertIs(is_tree(tree), 0 <= parent <= at)
                self.assertIs(is_tree(tree[:at + 1]), 0 <= parent <= at)
            for parent in (True, False, LONG, -LONG, None, "0", (0,), [0]):
                self.assert_rejects(is_tree, STAR[:at] + ((parent, 1),) + STAR[at + 1:])

    def test_lengths(self):
        for length, expected in ((0, False), (1, True), (2, True), (MAX_AMOUNT, True), (MAX_AMOUNT + 1, False),
                                 (-1, False), (LONG, False), (-LONG, False), (True, False), (False, False),
                                 (None, False), ("1", False), ((1,), False), ([1], False), ({}, False)):
            self.assertIs(is_tree(((0, length),)), expected)
            self.assertIs(is_tree(((0, 1), (1, length))), expected)
            self.assertIs(is_tree(((0, length), (1, 1))), expected)

    def test_other_values(self):
        for value in [*ODD_VALUES, *NOT_ASCENDING, 0, 1, -1, LONG, (0,), (0, 1), [(0, 1)], ([0, 1],), "01", ("01",)]:
            self.assert_rejects(is_tree, value)
        for tree in ((), ((0, 1),), BRANCHES, PATH):
            for value in other_kinds(tree):
                # The empty tuple is a tree, too.
                if value != ():
                    self.assert_rejects(is_tree, value)
        for edge in other_lengths((0, 1)):
            self.assert_rejects(is_tree, (edge,))
            self.assert_rejects(is_tree, ((0, 1), edge))


class TestTreeDistance(Case):
    def test_by_plain_search(self):
        for tree in some_trees():
            for (one, other), distance in distances(tree).items():
                self.assert_same(tree_distance(tree, one, other), distance)

    def test_ends(self):
        self.assert_same(tree_distance(LONG_PATH, 0, 9), 9 * MAX_AMOUNT)
        self.assert_same(tree_distance(LONG_PATH, 9, 0), 9 * MAX_AMOUNT)
        self.assert_same(tree_distance((), 0, 0), 0)

    def test_no_vertex(self):
        for tree in TREES:
            for value in (*NOT_VERTICES, len(tree) + 1):
                self.assert_raises(NoVertex, {"vertex": value}, tree_distance, tree, value, 0)
                self.assert_raises(NoVertex, {"vertex": value}, tree_distance, tree, 0, value)
                self.assert_raises(NoVertex, {"vertex": value}, tree_distance, tree, len(tree), value)

    def test_the_first_argument_comes_first(self):
        for one in NOT_VERTICES:
            for other in (True, -1, LONG, "a", [0]):
                self.assert_raises(NoVertex, {"vertex": one}, tree_distance, BRANCHES, one, other)
                self.assert_raises(NoVertex, {"vertex": other}, tree_distance, BRANCHES, other, one)


class TestBallTable(Case):
    def test_by_definition(self):
        for tree in some_trees():
            found = distances(tree)
            for center in range(len(tree) + 1):
                for radius in self.radii(found, center):
                    covered = tuple([at for at in range(len(tree) + 1) if found[center, at] <= radius])
                    self.assert_same(ball_table(tree, ((center, radius),)), (len(tree) + 1, (covered,)))

    def radii(self, found, center):
        """The distances of all vertices, one less and one more, and the least and the greatest amounts."""
        near = {distance + by for (one, other), distance in found.items() if one == center for by in (-1, 0, 1)}
        return sorted([radius for radius in near | {0, MAX_AMOUNT} if 0 <= radius <= MAX_AMOUNT])

    def test_several(self):
        self.assert_same(ball_table(PATH[:3], ((1, 1), (3, 0), (1, 1), (0, MAX_AMOUNT))),
                         (4, ((0, 1, 2), (3,), (0, 1, 2), (0, 1, 2, 3))))

    def test_no_balls(self):
        for tree in TREES:
            self.assert_same(ball_table(tree, ()), (len(tree) + 1, ()))

    def test_radius(self):
        for tree in TREES:
            self.assert_same(ball_table(tree, ((0, 0),)), (len(tree) + 1, ((0,),)))
        self.assert_same(ball_table(PATH, ((4, MAX_AMOUNT),)), (MAX_DEMANDS, (ALL,)))
        self.assert_same(ball_table(LONG_PATH, ((4, MAX_AMOUNT),)), (MAX_DEMANDS, ((3, 4, 5),)))
        self.assert_same(ball_table(LONG_PATH, ((4, MAX_AMOUNT - 1),)), (MAX_DEMANDS, ((4,),)))

    def test_as_many_as_possible(self):
        self.assert_same(ball_table((), ((0, 0),) * MAX_OFFERS), (1, ((0,),) * MAX_OFFERS))
        for tree in TREES:
            self.assert_raises(NoBalls, {}, ball_table, tree, ((0, 0),) * (MAX_OFFERS + 1))
            self.assert_raises(NoBalls, {}, ball_table, tree, ((0, 0),) * 700)

    def test_wrong_balls(self):
        for tree in TREES:
            wrong = [(value, 1) for value in (*NOT_VERTICES, len(tree) + 1)]
            wrong.extend([(0, radius) for radius in (*ODD_VALUES, -1, MAX_AMOUNT + 1, LONG, -LONG, (), (0,))])
            for ball in wrong + other_lengths((0, 1)) + [[0, 1], "01", {0: 1, 1: 2}, None, 0, ()]:
                self.assert_raises(NoBalls, {}, ball_table, tree, (ball,))
                self.assert_raises(NoBalls, {}, ball_table, tree, ((0, 0), ball))

    def test_other_values(self):
        for tree in TREES:
            for value in [*ODD_VALUES, *NOT_ASCENDING, 0, 1, (0, 1), (0,), [(0, 1)], *other_kinds(((0, 1), (0, 2)))]:
                self.assert_raises(NoBalls, {}, ball_table, tree, value)


class TestFarthestFirst(Case):
    def test_by_definition(self):
        for tree in some_trees():
            found = distances(tree)
            order = farthest_first(tree)
            self.assertIs(type(order), tuple)
            self.assertEqual([type(vertex) for vertex in order], [int] * (len(tree) + 1))
            self.assertEqual(sorted(order), list(range(len(tree) + 1)))
            for one, other in zip(order, order[1:]):
                depths = found[0, one], found[0, other]
                self.assertTrue(depths[0] > depths[1] or depths[0] == depths[1] and one < other)
            self.assertEqual(order[-1], 0)

    def test_ordinary(self):
        self.assert_same(farthest_first(()), (0,))
        self.assert_same(farthest_first(PATH), ALL[::-1])
        self.assert_same(farthest_first(STAR), ALL[1:] + (0,))

    def test_nested_for_small_trees(self):
        """Guarantee (g) for balls, with all centers and all radii that differ."""
        for tree in small_trees():
            order = farthest_first(tree)
            balls = [(center, radius) for center in range(len(tree) + 1) for radius in range(10)]
            for at in range(0, len(balls), MAX_OFFERS):
                self.check(ball_table(tree, tuple(balls[at:at + MAX_OFFERS])), order)
            for at in range(MAX_OFFERS):
                self.check(ball_table(tree, tuple(balls[at::10])), order)

    def test_nested_for_many_balls(self):
        source = random.Random(5)
        for tree in some_trees():
            for number in range(3):
                self.check(ball_table(tree, random_balls(source, tree, MAX_OFFERS)), farthest_first(tree))

    def check(self, table, order):
        self.assertIs(is_table(table), True)
        self.assertTrue(plain.is_nested(table, order), (table, order))
        self.assertIs(is_nested_order(table, order), True)
        self.assertIsNone(find_ring(table))
        self.assertIs(is_nested_order(table, first_nested_order(table)), True)


if __name__ == "__main__":
    unittest.main()
