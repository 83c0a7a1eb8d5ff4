"""Points 52 to 58: lines."""

import random
import unittest

import plain
from cases import Case
from payorder import lines
from payorder.errors import NoPosition, NoPositions
from payorder.limits import MAX_AMOUNT, MAX_BLOCKS, MAX_DEMANDS, MAX_OFFERS
from payorder.lines import is_line, line_choice, line_cost, line_payment, line_payments, line_table
from payorder.orders import is_nested_order
from payorder.payments import cheapest_cost, choice_cost, choose_full, pay_along
from payorder.tables import is_table
from samples import LONG, NOT_ASCENDING, ODD_VALUES, other_kinds, other_lengths, same

L = (((0, 9, 2),), ((0, 4, 5), (3, 9, 100)))
BLOCKS = tuple([(10 * at, 10 * at + 5, at) for at in range(MAX_BLOCKS)])
STRETCHES = tuple([(5 * at, 5 * at + 20, 7) for at in range(MAX_OFFERS)])
FULL = (BLOCKS, STRETCHES)

EDGE_LINES = (
    (((0, 0, 0),), ()),
    (((0, 0, 5),), ()),
    (((0, 0, 5),), ((0, 0, 3), (0, 0, 3))),
    (((7, 7, 5),), ((0, 6, 0), (8, 9, 0), (0, 6, 1))),
    (((0, 4, 2), (5, 9, 2)), ()),
    (((0, 4, 2), (6, 9, 2)), ()),
    (((0, 4, 2), (5, 9, 2)), ((3, 6, 4),)),
    (((0, 4, 2), (5, 9, 3)), ((0, 9, 0),)),
    (((0, 4, 0), (5, 9, 0)), ((0, 9, 3),)),
    (((3, 5, 4), (9, 9, 1), (12, 20, 3)), ((6, 8, 2), (6, 8, 0), (4, 13, 11), (4, 13, 11), (20, 30, 2))),
    (((0, 9, 2),), ((0, 9, 20), (0, 9, 19), (0, 9, 21))),
    (((0, 9, 2),), ((0, 9, 18),)),
    (((1, 8, 3),), ((0, 9, 10), (1, 8, 10), (2, 7, 9), (3, 3, 1), (8, 8, 2), (1, 1, 2))),
    L, FULL,
)

HUGE_LINES = (
    (((0, MAX_AMOUNT, MAX_AMOUNT),), ()),
    (((0, MAX_AMOUNT, 0),), ((0, MAX_AMOUNT, 0),)),
    (((0, MAX_AMOUNT, 1),), ((0, MAX_AMOUNT, MAX_AMOUNT),) * MAX_OFFERS),
    (((0, MAX_AMOUNT, 1),), ((0, MAX_AMOUNT - 1, MAX_AMOUNT), (1, MAX_AMOUNT, MAX_AMOUNT))),
    (((0, MAX_AMOUNT, 1),), ((5, MAX_AMOUNT - 5, 12345678901), (0, 10 ** 11, 777), (10 ** 11, 10 ** 12, 10 ** 12))),
    (((0, MAX_AMOUNT, 7),), tuple([(at * 10 ** 11, at * 10 ** 11 + 2 * 10 ** 10, 10 ** 11 + at) for at in range(10)])),
    (((0, 0, 1), (2, MAX_AMOUNT - 2, 3), (MAX_AMOUNT, MAX_AMOUNT, 5)), ((0, MAX_AMOUNT, MAX_AMOUNT), (0, 5, 4))),
    (tuple([(at * 10 ** 11, (at + 1) * 10 ** 11 - 1, at % 3) for at in range(MAX_BLOCKS)]),
     tuple([(at * 7 * 10 ** 10, at * 7 * 10 ** 10 + 10 ** 11, 3 * 10 ** 10 * at + 1) for at in range(MAX_OFFERS)])),
    (((0, 10 ** 12, 10 ** 12),), ((3, 10 ** 12, 10 ** 12), (10 ** 12, 10 ** 12, 1), (0, 3, 10 ** 12 - 1))),
)


def random_line(source, widest, greatest):
    """A short line with blocks that often touch and stretches that often begin or end at a block."""
    blocks, at = [], source.randrange(3)
    for number in range(source.randint(1, MAX_BLOCKS)):
        last = at + source.randrange(widest)
        blocks.append((at, last, source.randint(0, greatest)))
        at = last + source.choice((1, 1, 2, 3))
    stretches = []
    for number in range(source.randrange(MAX_OFFERS + 1)):
        low, high = sorted((source.randrange(at + 3), source.randrange(at + 3)))
        stretches.append((low, high, source.randint(0, source.choice((greatest, 10 * greatest)))))
    return tuple(blocks), tuple(stretches)


def short_lines():
    yield from EDGE_LINES
    source = random.Random(11)
    for number in range(150):
        yield random_line(source, 3, 2)
        yield random_line(source, 6, 9)


def positions_of(line):
    """All demands of a short line."""
    return [position for first, last, penalty in line[0] for position in range(first, last + 1)]


def whole_table(line):
    """The table of all demands of a short line, with prices and penalties."""
    positions = positions_of(line)
    offers = []
    for low, high, price in line[1]:
        offers.append(tuple([at for at, position in enumerate(positions) if position in range(low, high + 1)]))
    penalties = tuple([penalty for first, last, penalty in line[0] for position in range(first, last + 1)])
    return (len(positions), tuple(offers)), tuple([price for low, high, price in line[1]]), penalties


def spread(rows):
    """The payments of the rows by position."""
    return {position: payment for first, last, payment in rows for position in range(first, last + 1)}


def common(one, other):
    """How many positions two spans have in common."""
    return max(0, min(one[1], other[1]) - max(one[0], other[0]) + 1)


def left_over(block, spans):
    """How many positions of the block are in none of the spans."""
    at, many = block[0], 0
    for low, high, price in sorted(spans):
        if low > at:
            many += max(0, min(low - 1, block[1]) - at + 1)
        at = max(at, high + 1)
    return many + max(0, block[1] - at + 1)


def choice_cost_of(line, choice):
    """The cost of a choice, also for very long lines."""
    spans = [line[1][number] for number in choice]
    return sum([span[2] for span in spans]) + sum([block[2] * left_over(block, spans) for block in line[0]])


class TestInterface(Case):
    def test_names_and_parameters(self):
        self.assert_interface(lines, {
            "is_line": ["value"],
            "line_payments": ["line"],
            "line_payment": ["line", "position"],
            "line_cost": ["line"],
            "line_choice": ["line"],
            "line_table": ["line", "positions"],
        })

    def test_arguments_stay(self):
        for line in EDGE_LINES + HUGE_LINES:
            for call in (line_payments, line_cost, line_choice, is_line):
                self.assert_leaves(call, line)
            for value in (*ODD_VALUES, 0, 5, LONG, (0, 3), [0, 3]):
                self.assert_leaves(line_payment, line, value)
                self.assert_leaves(line_table, line, value)
        for value in (*ODD_VALUES, list(L), ([], [])):
            self.assert_leaves(is_line, value)

    def test_longest_lines_are_quick(self):
        """Guarantee (h): the positions are not gone through."""
        source = random.Random(12)
        made = [random_line(source, 10 ** 11, MAX_AMOUNT // 10) for number in range(20)]
        for line in (*HUGE_LINES, FULL, *[line for line in made if is_line(line)]):
            for call in (is_line, line_payments, line_cost, line_choice):
                self.assert_quick(call, line)
            for position in (line[0][0][0], line[0][-1][1], MAX_AMOUNT // 2, MAX_AMOUNT + 1):
                self.assert_quick(line_payment, line, position)
                self.assert_quick(line_table, line, (position,))

    def test_somewhat_beyond_the_limits(self):
        great = MAX_AMOUNT + 5
        line = (tuple([(at, at, 1) for at in range(0, 21, 3)]), ((0, great, great),) * (MAX_OFFERS + 1))
        self.assert_same(line_cost(line), 7)
        self.assert_same(line_payment((((great, great, great),), ()), great), great)


class TestIsLine(Case):
    def test_lines(self):
        for line in [*short_lines(), *HUGE_LINES]:
            self.assertIs(is_line(line), True)

    def test_number_of_blocks(self):
        for many in range(MAX_BLOCKS + 3):
            blocks = tuple([(2 * at, 2 * at, 1) for at in range(many)])
            self.assertIs(is_line((blocks, ())), 1 <= many <= MAX_BLOCKS)
        self.assert_rejects(is_line, ((), STRETCHES))

    def test_number_of_stretches(self):
        for many in range(MAX_OFFERS + 3):
            self.assertIs(is_line((((0, 0, 0),), ((0, 0, 0),) * many)), many <= MAX_OFFERS)

    def test_blocks_that_touch_or_overlap(self):
        for first in range(13):
            blocks = ((0, 9, 1), (first, 12, 1))
            self.assertIs(is_line((blocks, ())), first > 9)
        self.assert_rejects(is_line, (((10, 12, 1), (0, 9, 1)), ()))
        self.assert_rejects(is_line, (((0, 9, 1), (0, 9, 1)), ()))
        self.assert_rejects(is_line, (((0, 2, 1), (6, 8, 1), (3, 5, 1)), ()))
        self.assert_rejects(is_line, (((0, 2, 1), (3, 5, 1), (5, 8, 1)), ()))
        self.assert_rejects(is_line, (((0, 9, 1), (2, 3, 1)), ()))
        self.assertIs(is_line((((0, 2, 1), (3, 5, 1), (6, 8, 1)), ())), True)

    def test_stretches_in_any_order(self):
        for stretches in (((5, 9, 1), (0, 3, 1)), ((0, 3, 1), (0, 3, 1)), ((50, 60, 1),), ((0, MAX_AMOUNT, 0), (2, 2, 0))):
            self.assertIs(is_line((((0, 9, 2),), stretches)), True)

    def test_numbers(self):
        for number in (-1, 0, 1, MAX_AMOUNT, MAX_AMOUNT + 1, LONG, -LONG):
            right = 0 <= number <= MAX_AMOUNT
            self.assertIs(is_line((((0, 9, number),), ())), right)
            self.assertIs(is_line((((0, 9, 1),), ((0, 9, number),))), right)
            self.assertIs(is_line((((number, MAX_AMOUNT, 1),), ())), right)
            self.assertIs(is_line((((0, number, 1),), ())), right)
            self.assertIs(is_line((((0, 9, 1),), ((number, MAX_AMOUNT, 1),))), right)
            self.assertIs(is_line((((0, 9, 1),), ((0, number, 1),))), right)
        self.assert_rejects(is_line, (((MAX_AMOUNT, MAX_AMOUNT + 1, 1),), ()))
        self.assert_rejects(is_line, (((MAX_AMOUNT + 1, MAX_AMOUNT + 1, 1),), ()))

    def test_first_after_last(self):
        for first in range(4):
            for last in range(4):
                self.assertIs(is_line((((first, last, 1),), ())), first <= last)
                self.assertIs(is_line((((0, 9, 1),), ((first, last, 1),))), first <= last)

    def test_lengths(self):
        for row in other_lengths((0, 9, 2)):
            self.assert_rejects(is_line, ((row,), ()))
            self.assert_rejects(is_line, (((0, 9, 2),), (row,)))
        for value in other_lengths(L) + [(L,), (*L, ()), (L[1], L[0], L[0])]:
            self.assert_rejects(is_line, value)

    def test_other_kinds(self):
        for line in (L, EDGE_LINES[2], EDGE_LINES[9], FULL):
            for value in other_kinds(line) + [list(line), [list(line[0]), line[1]]]:
                self.assert_rejects(is_line, value)

    def test_truth_values(self):
        for at in range(3):
            for truth in (True, False):
                row = [0, 1, 1]
                row[at] = truth
                self.assert_rejects(is_line, ((tuple(row),), ()))
                self.assert_rejects(is_line, (((0, 9, 2),), (tuple(row),)))

    def test_other_values(self):
        for value in [*ODD_VALUES, *NOT_ASCENDING, 0, 1, (), (0, 1), ((), ()), (((),), ()), "ab", ("ab", "cd"), (L, L)]:
            self.assert_rejects(is_line, value)
            self.assert_rejects(is_line, (value, ()))
            # These are a block, or a stretch, though they do not ascend.
            if not isinstance(value, tuple) or value not in ((0, 2, 1), (1, 1, 2), (0, 1, 1)):
                self.assert_rejects(is_line, ((value,), ()))
                self.assert_rejects(is_line, (L[0], (value,)))
            if value != ():
                self.assert_rejects(is_line, (L[0], value))


class TestLinePayments(Case):
    def test_by_definition(self):
        for line in short_lines():
            table, prices, penalties = whole_table(line)
            order = tuple(range(table[0]))
            expected = plain.payments_along(table, prices, penalties, order)
            self.assertEqual(spread(line_payments(line)), dict(zip(positions_of(line), expected)))
            self.assertEqual(pay_along(table, prices, penalties, order), expected)

    def test_rows_are_as_long_as_possible(self):
        for line in [*short_lines(), *HUGE_LINES]:
            self.check_rows(line, line_payments(line))

    def check_rows(self, line, rows):
        self.assertIs(type(rows), tuple)
        for row in rows:
            self.assertEqual([type(row), *[type(number) for number in row]], [tuple, int, int, int])
            self.assertLessEqual(row[0], row[1])
        for row, following in zip(rows, rows[1:]):
            self.assertLess(row[1], following[0])
            if row[1] + 1 == following[0]:
                self.assertNotEqual(row[2], following[2])
        # Each row consists of demands, and all demands are in rows.
        for row in rows:
            self.assertEqual(sum([common(row, block) for block in line[0]]), row[1] - row[0] + 1)
        self.assertEqual(sum([row[1] - row[0] + 1 for row in rows]), sum([last - first + 1 for first, last, p in line[0]]))

    def test_across_blocks(self):
        self.assert_same(line_payments((((0, 4, 2), (5, 9, 1)), ((0, 9, 3),))), ((0, 0, 2), (1, 1, 1), (2, 9, 0)))
        self.assert_same(line_payments((((0, 4, 2), (5, 9, 1)), ((0, 9, 10),))), ((0, 4, 2), (5, 9, 0)))
        self.assert_same(line_payments((((0, 4, 2), (6, 9, 2)), ())), ((0, 4, 2), (6, 9, 2)))
        self.assert_same(line_payments((((0, 4, 2), (5, 9, 7)), ((5, 5, 2), (6, 9, 9)))), ((0, 5, 2), (6, 6, 7), (7, 7, 2), (8, 9, 0)))
        self.assert_same(line_payments((((0, 4, 0), (5, 9, 7)), ((3, 9, 0),))), ((0, 9, 0),))

    def test_longest(self):
        great = MAX_AMOUNT
        self.assert_same(line_payments(HUGE_LINES[0]), ((0, great, great),))
        self.assert_same(line_payments(HUGE_LINES[1]), ((0, great, 0),))
        self.assert_same(line_payments(HUGE_LINES[2]), ((0, great - 1, 1), (great, great, 0)))
        self.assert_same(line_payments((((0, great, 3),), ((0, great, great),))),
                         ((0, great // 3 - 1, 3), (great // 3, great // 3, 1), (great // 3 + 1, great, 0)))

    def test_longest_are_collections(self):
        """No offer gets more than its price, and a demand that pays less than its penalty fills an offer."""
        for line in HUGE_LINES:
            rows = line_payments(line)
            for span in line[1]:
                self.assertLessEqual(self.paid_to(rows, span, MAX_AMOUNT), span[2])
            for first, last, penalty in line[0]:
                for row in rows:
                    if common(row, (first, last)):
                        self.assertLessEqual(row[2], penalty)
                    if common(row, (first, last)) and row[2] < penalty:
                        self.check_full(line, rows, max(first, row[0]))
                        self.check_full(line, rows, min(last, row[1]))

    def check_full(self, line, rows, position):
        covering = [span for span in line[1] if span[0] <= position <= span[1]]
        self.assertTrue(any([self.paid_to(rows, span, position) == span[2] for span in covering]), (line, position))

    def paid_to(self, rows, span, position):
        """What the demands of the span pay up to the position."""
        return sum([common(row, (span[0], min(span[1], position))) * row[2] for row in rows])

    def test_a_longer_line_of_the_same_shape(self):
        for line in short_lines():
            scaled = self.scaled(line, 10 ** 6)
            expected = []
            for first, last, payment in line_payments(line):
                expected.append((first * 10 ** 6, (last + 1) * 10 ** 6 - 1, payment))
            totals = [self.total(scaled, row) for row in expected]
            found = [self.total(scaled, row, line_payments(scaled)) for row in expected]
            self.assertEqual(found, totals)

    def scaled(self, line, by):
        """The line with that many demands in place of each one, and prices to fit."""
        blocks = tuple([(first * by, (last + 1) * by - 1, penalty) for first, last, penalty in line[0]])
        return blocks, tuple([(low * by, (high + 1) * by - 1, price * by) for low, high, price in line[1]])

    def total(self, line, row, rows=None):
        if rows is None:
            return (row[1] - row[0] + 1) * row[2]
        return sum([common(row, other) * other[2] for other in rows])


class TestLinePayment(Case):
    def test_every_position(self):
        for line in short_lines():
            paid = spread(line_payments(line))
            for position in range(-2, line[0][-1][1] + 4):
                if position in paid:
                    self.assert_same(line_payment(line, position), paid[position])
                else:
                    self.assert_raises(NoPosition, {"position": position}, line_payment, line, position)

    def test_longest(self):
        great = MAX_AMOUNT
        for line in HUGE_LINES:
            for first, last, payment in line_payments(line):
                for position in (first, last, (first + last) // 2):
                    self.assert_same(line_payment(line, position), payment)
            for position in (-1, great + 1, great * 2):
                self.assert_raises(NoPosition, {"position": position}, line_payment, line, position)
        self.assert_same([line_payment(HUGE_LINES[2], position) for position in (0, great - 1, great)], [1, 1, 0])
        self.assert_raises(NoPosition, {"position": 1}, line_payment, HUGE_LINES[6], 1)

    def test_no_position(self):
        for line in (L, FULL, *HUGE_LINES):
            for value in (*ODD_VALUES, *NOT_ASCENDING, (), (0,), -1, MAX_AMOUNT + 1, LONG, -LONG):
                self.assert_raises(NoPosition, {"position": value}, line_payment, line, value)


class TestLineCost(Case):
    def test_by_plain_search(self):
        for line in short_lines():
            table, prices, penalties = whole_table(line)
            choices = plain.subsets(range(len(line[1])))
            self.assert_same(line_cost(line), min([choice_cost_of(line, choice) for choice in choices]))
            self.assertEqual(line_cost(line), cheapest_cost(table, prices, penalties))

    def test_small_lines_by_the_words(self):
        for line in list(short_lines())[:40]:
            if len(line[1]) < 6:
                self.assertEqual(line_cost(line), plain.lowest_cost(*whole_table(line)))

    def test_total_of_the_payments(self):
        for line in [*short_lines(), *HUGE_LINES]:
            rows = line_payments(line)
            self.assert_same(line_cost(line), sum([(last - first + 1) * payment for first, last, payment in rows]))

    def test_longest(self):
        for line in HUGE_LINES:
            choices = plain.subsets(range(len(line[1])))
            self.assert_same(line_cost(line), min([choice_cost_of(line, choice) for choice in choices]))
        self.assert_same(line_cost(HUGE_LINES[0]), (MAX_AMOUNT + 1) * MAX_AMOUNT)


class TestLineChoice(Case):
    def test_cheapest(self):
        for line in [*short_lines(), *HUGE_LINES]:
            choice = line_choice(line)
            self.assertIn(choice, plain.subsets(range(len(line[1]))))
            self.assertIs(type(choice), tuple)
            self.assertEqual({type(number) for number in choice} - {int}, set())
            self.assertEqual(choice_cost_of(line, choice), line_cost(line))

    def test_by_section_d(self):
        for line in short_lines():
            table, prices, penalties = whole_table(line)
            order = tuple(range(table[0]))
            self.assertEqual(choice_cost(table, prices, penalties, line_choice(line)), line_cost(line))
            if table[0] <= 12:
                self.assertIs(is_nested_order(table, order), True)
                full = choose_full(table, prices, penalties, order)
                self.assertEqual(choice_cost_of(line, full), line_cost(line))

    def test_equal_stretches(self):
        self.assertIn(line_choice((((0, 9, 2),), ((0, 9, 5), (0, 9, 5)))), ((0,), (1,)))
        self.assert_same(line_choice((((0, 9, 2),), ((0, 9, 5), (0, 9, 4)))), (1,))

    def test_without_stretches(self):
        self.assert_same(line_choice((((0, 9, 2),), ())), ())

    def test_stretches_over_no_demand(self):
        line = (((0, 9, 2),), ((10, 20, 1), (0, 9, 5), (30, 30, MAX_AMOUNT)))
        self.assert_same(line_choice(line), (1,))
        self.assert_same(line_cost(line), 5)


class TestLineTable(Case):
    def test_by_definition(self):
        source = random.Random(13)
        for line in short_lines():
            table, prices, penalties = whole_table(line)
            positions = positions_of(line)
            for number in range(4):
                many = source.randint(1, min(MAX_DEMANDS, len(positions)))
                places = sorted(source.sample(range(len(positions)), many))
                found = line_table(line, tuple([positions[place] for place in places]))
                offers = tuple([tuple([at for at, place in enumerate(places) if place in offer]) for offer in table[1]])
                self.assert_same(found, ((many, offers), prices, tuple([penalties[place] for place in places])))
                self.assertIs(is_table(found[0]), True)

    def test_ends_of_blocks_and_stretches(self):
        line = (((2, 5, 3), (6, 6, 4), (9, 12, 5)), ((0, 5, 1), (5, 6, 2), (7, 8, 3), (12, 40, 4), (2, 2, 5)))
        self.assert_same(line_table(line, (2, 5, 6, 9, 12)),
                         ((5, ((0, 1), (1, 2), (), (4,), (0,))), (1, 2, 3, 4, 5), (3, 3, 4, 5, 5)))
        for position in (0, 1, 7, 8, 13):
            self.assert_raises(NoPositions, {}, line_table, line, (position,))

    def test_longest(self):
        great = MAX_AMOUNT
        self.assert_same(line_table(HUGE_LINES[3], (0, 1, great - 1, great)),
                         ((4, ((0, 1, 2), (1, 2, 3))), (great, great), (1, 1, 1, 1)))

    def test_number_of_positions(self):
        line = (((0, 20, 1),), ((0, 20, 5),))
        for many in range(MAX_DEMANDS + 3):
            positions = tuple(range(many))
            if 1 <= many <= MAX_DEMANDS:
                self.assert_same(line_table(line, positions), ((many, (positions,)), (5,), (1,) * many))
            else:
                self.assert_raises(NoPositions, {}, line_table, line, positions)

    def test_no_positions(self):
        line = (((0, 20, 1), (30, 40, 1)), ((0, 20, 5),))
        wrong = [*ODD_VALUES, 0, 1, (), (3, 0), (0, 0), (1, 2, 2), (1, 3, 2), (-1,), (-1, 0), (21,), (0, 25, 30), (41,),
                 (MAX_AMOUNT,), (LONG,), (-LONG,), (True,), (False,), (0, True), (False, 1), [0], [0, 3], "03", {0: 1}]
        for value in wrong + other_kinds((0, 3, 35)):
            self.assert_raises(NoPositions, {}, line_table, line, value)
        for value in NOT_ASCENDING:
            if not same(value, (10,)) and not same(value, (0, 10)):
                self.assert_raises(NoPositions, {}, line_table, line, value)


if __name__ == "__main__":
    unittest.main()
