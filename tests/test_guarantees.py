"""Point 3: the guarantees over the whole program, on small tables against plain searches."""

import itertools
import random
import unittest

import plain
from cases import Case
from payorder.consoles import Console
from payorder.covers import are_separate, is_cover, smallest_cover
from payorder.errors import Blocked, NotOrderable
from payorder.failures import find_failure, is_failure
from payorder.families import ball_table, farthest_first, interval_table
from payorder.lines import is_line, line_choice, line_cost, line_payment, line_payments, line_table
from payorder.limits import MAX_AMOUNT
from payorder.orders import count_nested_orders, first_nested_order, is_nested_order, nested_order_at, simple_demands
from payorder.payments import cheapest_cost, choose_full, is_collection, is_solution, pay_along, solve
from payorder.rings import certificate, find_ring, is_certificate, is_ring
from payorder.sessions import GuardedSession, Session
from payorder.texts import format_data, format_order, parse_data, parse_order
from payorder.variables import cost_by_penalty, cost_by_price
from plain import data_for
from steps import after, fits, perform, random_operation, state


def tables():
    """Small tables, orderable and not."""
    yield from itertools.islice(plain.small_tables(), 0, None, 5)
    yield from itertools.islice(plain.four_tables(), 0, None, 7)
    yield from plain.random_tables(60, 4, 5)
    yield from plain.EDGE_TABLES


def orderable_tables():
    return [table for table in tables() if plain.nested_orders(table)]


class TestGuarantees(Case):
    def test_a_either_an_order_or_a_ring(self):
        kinds = []
        for table in tables():
            orders, rings = plain.nested_orders(table), plain.rings(table)
            self.assertNotEqual(bool(orders), bool(rings))
            kinds.append(bool(orders))
            self.assertEqual(find_ring(table) is None, bool(orders))
            self.assertEqual(certificate(table)[0], "order" if orders else "ring")
            self.assertIs(is_certificate(table, certificate(table)), True)
            self.assertEqual(count_nested_orders(table), len(orders))
            self.assertEqual([nested_order_at(table, index) for index in range(len(orders))], orders)
        self.assertEqual(set(kinds), {True, False})

    def test_a_what_is_accepted_is_correct(self):
        for table in plain.random_tables(25, 4, 4):
            orders, rings = plain.nested_orders(table), plain.rings(table)
            for order in itertools.permutations(range(4)):
                self.assertIs(is_nested_order(table, order), order in orders)
                self.assertIs(is_certificate(table, ("order", order)), order in orders)
            for demands, offers in itertools.product(itertools.permutations(range(4), 3), repeat=2):
                self.assertIs(is_ring(table, (demands, offers)), (demands, offers) in rings)
                self.assertIs(is_certificate(table, ("ring", (demands, offers))), (demands, offers) in rings)

    def test_a_an_accepted_solution_is_cheapest(self):
        source = random.Random(41)
        for table, prices, penalties in data_for(plain.random_tables(60, 3, 3), 3):
            lowest = plain.lowest_cost(table, prices, penalties)
            for choice in plain.subsets(range(3)):
                cost = plain.cost(table, prices, penalties, choice)
                for paid in itertools.product(range(4), repeat=3):
                    if is_collection(table, prices, penalties, paid):
                        self.assertLessEqual(sum(paid), lowest)
                    if is_solution(table, prices, penalties, (cost, choice, paid)):
                        self.assertEqual((cost, sum(paid)), (lowest, lowest))
                wrong = (cost + source.choice((-1, 1)), choice, (0, 0, 0))
                self.assertIs(is_solution(table, prices, penalties, wrong), False)

    def test_b_nested_orders_collect_the_lowest_cost(self):
        for table, prices, penalties in data_for(orderable_tables(), 6):
            lowest = plain.lowest_cost(table, prices, penalties)
            for order in plain.nested_orders(table):
                self.assertEqual(sum(pay_along(table, prices, penalties, order)), lowest)
                choice = choose_full(table, prices, penalties, order)
                self.assertEqual(plain.cost(table, prices, penalties, choice), lowest)
            self.assertEqual(solve(table, prices, penalties)[0], lowest)

    def test_c_other_orders_fail(self):
        for table in tables():
            for order in itertools.permutations(range(table[0])):
                failure = find_failure(table, order)
                self.assertEqual(failure is None, plain.is_nested(table, order))
                if failure is not None:
                    prices, penalties, collection = failure
                    self.assertIs(is_failure(table, order, failure), True)
                    self.assertTrue(plain.is_collection(table, prices, penalties, collection))
                    paid = plain.payments_along(table, prices, penalties, order)
                    self.assertLess(sum(paid), sum(collection))

    def test_d_a_simple_demand_can_be_first(self):
        for table in orderable_tables():
            firsts = {order[0] for order in plain.nested_orders(table)}
            self.assertEqual(simple_demands(table, tuple(range(table[0]))), tuple(sorted(firsts)))

    def test_e_smallest_covers(self):
        for table in orderable_tables():
            if not plain.uncovered(table):
                cover, demands = smallest_cover(table)
                self.assertTrue(is_cover(table, cover) and are_separate(table, demands))
                self.assertEqual(len(cover), min([len(choice) for choice in plain.covers(table)]))
                self.assertEqual(len(cover), max([len(row) for row in plain.separate_sets(table)]))

    def test_f_one_amount(self):
        for table, prices, penalties in data_for(tables(), 5):
            for offer in range(len(prices)):
                base, limit = cost_by_price(table, prices, penalties, offer)
                for x in range(9):
                    lowest = plain.lowest_cost(table, prices[:offer] + (x,) + prices[offer + 1:], penalties)
                    self.assertEqual(lowest, min(base + x, limit))
            for demand in range(table[0]):
                base, limit = cost_by_penalty(table, prices, penalties, demand)
                self.assertEqual(limit is None, demand in plain.uncovered(table))
                for x in range(9):
                    lowest = plain.lowest_cost(table, prices, penalties[:demand] + (x,) + penalties[demand + 1:])
                    self.assertEqual(lowest, base + x if limit is None else min(base + x, limit))

    def test_g_families(self):
        source = random.Random(43)
        for number in range(150):
            ends = [tuple(sorted(source.choices(range(5), k=2))) for interval in range(4)]
            tree = tuple([(source.randrange(at), source.randint(1, 3)) for at in range(1, 5)])
            balls = tuple([(source.randrange(5), source.randrange(7)) for ball in range(4)])
            for table, order in ((interval_table(5, tuple(ends)), (0, 1, 2, 3, 4)), (ball_table(tree, balls), farthest_first(tree))):
                self.assertIn(order, plain.nested_orders(table))
                self.assertEqual(first_nested_order(table), plain.nested_orders(table)[0])

    def test_h_lines(self):
        """A line has the answers of the table of its demands, and the longest lines have answers, too."""
        source = random.Random(47)
        for number in range(100):
            blocks = ((0, source.randrange(3), source.randrange(4)), (source.randint(3, 4), 6, source.randrange(4)))
            ends = [sorted(source.choices(range(9), k=2)) for stretch in range(4)]
            line = (blocks, tuple([(low, high, source.randrange(9)) for low, high in ends]))
            self.assertIs(is_line(line), True)
            positions = tuple([at for first, last, penalty in blocks for at in range(first, last + 1)])
            table, prices, penalties = line_table(line, positions)
            paid = plain.payments_along(table, prices, penalties, tuple(range(len(positions))))
            self.assertEqual(tuple([line_payment(line, position) for position in positions]), paid)
            self.assertEqual(line_cost(line), plain.lowest_cost(table, prices, penalties))
            self.assertEqual(plain.cost(table, prices, penalties, line_choice(line)), line_cost(line))
        longest = (((0, MAX_AMOUNT, 2),), ((1, MAX_AMOUNT - 1, MAX_AMOUNT), (0, MAX_AMOUNT // 3, 7)))
        for call in (line_payments, line_cost, line_choice):
            self.assert_quick(call, longest)
        self.assertEqual(line_cost(longest), MAX_AMOUNT + 4)

    def test_i_undoing(self):
        source = random.Random(53)
        for made in (Session, GuardedSession):
            for data in data_for([table for table in orderable_tables() if table[0] > 1][::5], 6):
                session, states = made(*data), [data]
                for step in range(8):
                    operation = random_operation(source, states[-1])
                    if fits(states[-1], operation):
                        self.perform(session, states, operation)
                for at in range(len(states) - 1, 0, -1):
                    self.assert_same([state(session, moment) for moment in range(at + 1)], states[:at + 1])
                    session.undo()
                    self.assert_same(state(session), states[at - 1])
                self.assertTrue(session == made(*data))

    def perform(self, session, states, operation):
        wanted = after(states[-1], operation)
        if isinstance(session, GuardedSession) and certificate(wanted[0])[0] == "ring":
            with self.assertRaises(Blocked):
                perform(session, operation)
        else:
            perform(session, operation)
            states.append(wanted)

    def test_i_a_guarded_session_has_a_nested_order(self):
        for data in data_for(tables(), 6):
            orders = plain.nested_orders(data[0])
            if orders:
                self.assertEqual(GuardedSession(*data).certificate(), ("order", orders[0]))
                self.assertEqual(sum(GuardedSession(*data).payments()), plain.lowest_cost(*data))
            else:
                with self.assertRaises(Blocked) as context:
                    GuardedSession(*data)
                self.assertIn(context.exception.ring, plain.rings(data[0]))


class TestOneProgram(Case):
    """The parts of the program say the same of the same data."""

    def test_functions_sessions_consoles_and_texts(self):
        for data in data_for(tables(), 6):
            table, prices, penalties = data
            session = Session(*data)
            console = Console(session)
            self.assert_same(parse_data(format_data(*data)), data)
            self.assertEqual(console.execute("cost"), str(cheapest_cost(*data)))
            if certificate(table)[0] == "ring":
                self.assertEqual(console.execute("order"), "error NotOrderable")
                with self.assertRaises(NotOrderable):
                    session.payments()
                continue
            cost, choice, collection = solve(*data)
            self.assertEqual(cost, session.cost())
            order = parse_order(console.execute("order"))
            self.assertEqual(order, first_nested_order(table))
            self.assertEqual(console.execute("failure " + format_order(order).replace(">", " ")), "none")
            self.assertIs(is_solution(*data, (cost, session.choice(), session.payments())), True)
            self.assertIs(is_solution(*data, (cost, choice, collection)), True)


if __name__ == "__main__":
    unittest.main()
