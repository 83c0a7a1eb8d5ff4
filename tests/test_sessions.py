"""Points 59 to 68 and 71 to 76: sessions, their operations and queries."""

import copy
import inspect
import itertools
import random
import unittest

import plain
from payorder import sessions
from payorder.consoles import Console
from payorder.errors import (
    BadPenalties, BadPrices, BadTable, Failed, LastDemand, NoAmount, NoChoice, NoDemand, NoDemands, NoMoment, NoOffer,
    NoOperations, NothingToUndo, NotOrderable, TooMany,
)
from payorder.limits import MAX_AMOUNT, MAX_BATCH, MAX_DEMANDS, MAX_OFFERS, MAX_OPERATIONS
from payorder.orders import first_nested_order
from payorder.payments import choose_full, pay_along
from payorder.rings import certificate, is_certificate
from payorder.sessions import GuardedSession, Session
from payorder.tables import is_table
from plain import EDGE_TABLES, FREE_TABLES, LARGE_TABLES, ORDERABLE_TABLES, RING_TABLES, data_for, edge_cases
from samples import LONG, NOT_ASCENDING, ODD_VALUES, R, T, other_kinds, other_lengths
from steps import (
    BOTH, DATA, NOT_AMOUNTS, NOT_MOMENTS, NOT_NUMBERS, NOT_TUPLES, OPERATIONS, OTHERS, QUERIES, RIGHT, WRONG,
    SessionCase, after, fits, perform, random_operation, state, whole,
)


class TestInterface(SessionCase):
    def test_methods_and_parameters(self):
        for made in BOTH:
            self.assertEqual(made.__module__, "payorder.sessions")
            for name, parameters in [*OPERATIONS.items(), *OTHERS.items()]:
                # Each method stands in the class itself, not only in a base class.
                self.assertIn(name, vars(made))
                self.assertEqual(list(inspect.signature(vars(made)[name]).parameters)[1:], parameters)
            for name in QUERIES:
                found = inspect.signature(vars(made)[name]).parameters
                self.assertEqual(list(found)[1:], ["at"])
                self.assertEqual((found["at"].kind, found["at"].default), (inspect.Parameter.KEYWORD_ONLY, None))
            for name in ("__init__", "__len__", "__str__", "__eq__"):
                self.assertIn(name, vars(made))

    def test_constructor(self):
        for made in BOTH:
            found = inspect.signature(made).parameters
            self.assertEqual(list(found), ["table", "prices", "penalties", "limit"])
            self.assertEqual((found["limit"].kind, found["limit"].default), (inspect.Parameter.KEYWORD_ONLY, MAX_OPERATIONS))
        self.assertEqual(GuardedSession.__bases__, (Session,))
        self.assertIs(sessions.Session, Session)

    def test_arguments_by_name(self):
        for made in BOTH:
            session = made(table=T, prices=(3, 4), penalties=(5, 1, 2), limit=9)
            session.add_demand(penalty=1, offers=(0,))
            session.remove_demand(demand=0)
            session.add_offer(price=2, demands=())
            session.remove_offer(offer=0)
            session.set_price(offer=0, price=1)
            session.set_penalty(demand=0, penalty=1)
            session.apply_all(operations=())
            self.assertEqual(len(session), 6)

    def test_operations_return_none(self):
        for made in BOTH:
            for operation in RIGHT:
                session = made(*DATA)
                self.assertIsNone(perform(session, operation))
                self.assertIsNone(session.undo())
                self.assertIsNone(session.apply_all([operation]))

    def test_arguments_stay(self):
        operations = [["set_price", 0, 9], ("add_offer", 1, [0])]
        before = copy.deepcopy(operations)
        with self.assertRaises(NoOperations):
            Session(*DATA).apply_all(operations)
        self.assert_same(operations, before)
        operations = [("set_price", 0, 9), ("add_offer", 1, [0])]
        before = copy.deepcopy(operations)
        with self.assertRaises(Failed):
            Session(*DATA).apply_all(operations)
        self.assert_same(operations, before)

    def test_a_list_that_is_changed_afterwards(self):
        operations = [("set_price", 0, 9)]
        session = Session(*DATA)
        session.apply_all(operations)
        operations.append(("remove_offer", 0))
        operations[0] = None
        self.assert_same((state(session), session.log()), ((T, (9, 4), (5, 1, 2)), (("set_price", "done"),)))


class TestConstructor(SessionCase):
    def test_every_table(self):
        for data in [*data_for(list(plain.small_tables()), MAX_AMOUNT), *edge_cases()]:
            session = Session(*data)
            self.assert_same(state(session), data)
            self.assertEqual((len(session), session.log()), (0, ()))

    def test_bad_table(self):
        wrong = [*ODD_VALUES, *NOT_ASCENDING, 0, (), (0, ()), (11, ()), (3, ((1, 0),)), (3, ((0, 3),)), (3, [(0, 1)]),
                 (True, ()), (3, ((),) * 11), *other_kinds(T), *other_lengths(T)]
        for value in wrong:
            for made in BOTH:
                self.assert_raises(BadTable, {}, made, value, (3, 4), (5, 1, 2))
                self.assert_raises(BadTable, {}, made, value, None, None)

    def test_bad_prices(self):
        for value in [*ODD_VALUES, 0, (), (3,), (3, 4, 5), (3, -1), (3, MAX_AMOUNT + 1), (3, LONG), (True, 4), [3, 4],
                      *other_kinds((3, 4)), *other_lengths((3, 4))]:
            for made in BOTH:
                self.assert_raises(BadPrices, {}, made, T, value, (5, 1, 2))
                self.assert_raises(BadPrices, {}, made, T, value, None)

    def test_bad_penalties(self):
        for value in [*ODD_VALUES, 0, (), (5, 1), (5, 1, 2, 3), (5, 1, -1), (5, MAX_AMOUNT + 1, 2), (5, 1, True), [5, 1, 2],
                      *other_kinds((5, 1, 2)), *other_lengths((5, 1, 2))]:
            for made in BOTH:
                self.assert_raises(BadPenalties, {}, made, T, (3, 4), value)
            self.assert_raises(BadPenalties, {}, GuardedSession, R, (3, 4, 5), value)

    def test_a_session_is_no_part(self):
        session = Session(*DATA)
        self.assert_raises(BadTable, {}, Session, session, (3, 4), (5, 1, 2))
        self.assert_raises(BadPrices, {}, Session, T, session, (5, 1, 2))
        self.assert_raises(BadPenalties, {}, Session, T, (3, 4), session)


class TestOperations(SessionCase):
    def test_each_effect(self):
        tables = [table for table in plain.small_tables() if table[0] > 1][::40] + [T, R, *EDGE_TABLES, *LARGE_TABLES[::3]]
        source = random.Random(19)
        for data in data_for(tables, 9):
            for number in range(12):
                operation = random_operation(source, data)
                if fits(data, operation):
                    session = Session(*data)
                    perform(session, operation)
                    self.assert_same(state(session), after(data, operation))
                    self.assert_same(state(session, 0), data)
                    self.assert_same((len(session), session.log()), (1, ((operation[0], "done"),)))
                    self.assertIs(is_table(session.table()), True)

    def test_amounts(self):
        for amount in (0, 1, MAX_AMOUNT):
            session = Session(*DATA)
            session.add_demand(amount, ())
            session.add_offer(amount, (3,))
            session.set_price(0, amount)
            session.set_penalty(0, amount)
            self.assert_same(session.prices(), (amount, 4, amount))
            self.assert_same(session.penalties(), (amount, 1, 2, amount))

    def test_no_amount(self):
        session = Session(*DATA)
        for value in NOT_AMOUNTS:
            self.assert_fails(NoAmount, {"amount": value}, session, "add_demand", value, (0,))
            self.assert_fails(NoAmount, {"amount": value}, session, "add_offer", value, (0,))
            self.assert_fails(NoAmount, {"amount": value}, session, "set_price", 0, value)
            self.assert_fails(NoAmount, {"amount": value}, session, "set_penalty", 0, value)
            # The amount comes before the offers or demands.
            self.assert_fails(NoAmount, {"amount": value}, session, "add_demand", value, None)
            self.assert_fails(NoAmount, {"amount": value}, session, "add_offer", value, None)

    def test_no_choice(self):
        session = Session(*DATA)
        for value in (*NOT_TUPLES, (2,), (0, 2), (0, 1, 2), [0, 1], *other_kinds((0, 1))):
            self.assert_fails(NoChoice, {}, session, "add_demand", 1, value)

    def test_no_demands(self):
        session = Session(*DATA)
        for value in (*NOT_TUPLES, (3,), (0, 3), (0, 1, 2, 3), [0, 1], *other_kinds((0, 1))):
            self.assert_fails(NoDemands, {}, session, "add_offer", 1, value)

    def test_no_demand(self):
        session = Session(*DATA)
        for value in (*NOT_NUMBERS, 3, MAX_DEMANDS):
            self.assert_fails(NoDemand, {"demand": value}, session, "remove_demand", value)
            self.assert_fails(NoDemand, {"demand": value}, session, "set_penalty", value, 1)
            self.assert_fails(NoDemand, {"demand": value}, session, "set_penalty", value, -1)
        single = Session((1, ()), (), (4,))
        for value in (*NOT_NUMBERS, 1):
            self.assert_fails(NoDemand, {"demand": value}, single, "remove_demand", value)

    def test_no_offer(self):
        for session in (Session(*DATA), Session((2, ()), (), (1, 1))):
            for value in (*NOT_NUMBERS, 2, MAX_OFFERS):
                self.assert_fails(NoOffer, {"offer": value}, session, "remove_offer", value)
                self.assert_fails(NoOffer, {"offer": value}, session, "set_price", value, 1)
                self.assert_fails(NoOffer, {"offer": value}, session, "set_price", value, None)
        self.assert_fails(NoOffer, {"offer": 0}, Session((2, ()), (), (1, 1)), "remove_offer", 0)

    def test_the_last_demand(self):
        self.assert_fails(LastDemand, {}, Session((1, ((0,),)), (1,), (4,)), "remove_demand", 0)
        session = Session(*DATA)
        session.remove_demand(2)
        session.remove_demand(0)
        self.assert_same(session.table(), (1, ((0,), (0,))))
        self.assert_fails(LastDemand, {}, session, "remove_demand", 0)

    def test_too_many_demands(self):
        for made in BOTH:
            session = made((MAX_DEMANDS - 1, ((0,),)), (1,), (2,) * (MAX_DEMANDS - 1))
            session.add_demand(3, (0,))
            self.assert_same(session.table(), (MAX_DEMANDS, ((0, MAX_DEMANDS - 1),)))
            self.assert_fails(TooMany, {"limit": MAX_DEMANDS}, session, "add_demand", 3, (0,))
            self.assert_fails(NoChoice, {}, session, "add_demand", 3, (1,))
            self.assert_fails(NoAmount, {"amount": -1}, session, "add_demand", -1, (1,))

    def test_too_many_offers(self):
        for made in BOTH:
            session = made((2, ((0,),) * (MAX_OFFERS - 1)), (1,) * (MAX_OFFERS - 1), (2, 2))
            session.add_offer(3, (0, 1))
            self.assertEqual(len(session.prices()), MAX_OFFERS)
            self.assert_fails(TooMany, {"limit": MAX_OFFERS}, session, "add_offer", 3, (0, 1))
            self.assert_fails(NoDemands, {}, session, "add_offer", 3, (2,))
            self.assert_fails(NoAmount, {"amount": None}, session, "add_offer", None, (2,))

    def test_random_sequences(self):
        source = random.Random(23)
        for number in range(60):
            data = plain.data_for([plain.random_table(source, source.randint(1, 5), source.randrange(5))], 9)[0]
            session, states = Session(*data), [data]
            for step in range(40):
                if source.randrange(4) == 0 and len(states) > 1:
                    session.undo()
                    states.pop()
                    continue
                operation = random_operation(source, states[-1])
                if fits(states[-1], operation) and len(states) <= MAX_OPERATIONS:
                    perform(session, operation)
                    states.append(after(states[-1], operation))
            self.assertEqual(len(session), len(states) - 1)
            for at, expected in enumerate(states):
                self.assert_same(state(session, at), expected)
            while states[1:]:
                session.undo()
                states.pop()
                self.assert_same(state(session), states[-1])
            self.assert_same(state(session), data)


class TestLimit(SessionCase):
    def test_limits(self):
        for made in BOTH:
            for limit in (0, 1, 3, MAX_OPERATIONS):
                session = made(*DATA, limit=limit)
                for number in range(limit):
                    session.set_price(0, number)
                self.assertEqual(len(session), limit)
                self.check_full(session, limit)

    def check_full(self, session, limit):
        for operation in (*RIGHT, *[operation for operation, name in WRONG]):
            self.assert_fails(TooMany, {"limit": limit}, session, *operation)
        for word in OPERATIONS:
            many = len(OPERATIONS[word])
            self.assert_fails(TooMany, {"limit": limit}, session, word, *[[None]] * many)

    def test_the_default(self):
        for made in BOTH:
            session = made(*DATA)
            for number in range(MAX_OPERATIONS):
                session.set_penalty(1, number)
            self.assert_fails(TooMany, {"limit": MAX_OPERATIONS}, session, "set_penalty", 1, 1)

    def test_undo_makes_room(self):
        session = Session(*DATA, limit=1)
        session.set_price(0, 9)
        self.assert_fails(TooMany, {"limit": 1}, session, "set_price", 0, 8)
        session.undo()
        session.set_price(0, 7)
        self.assert_same(session.prices(), (7, 4))
        self.assert_fails(TooMany, {"limit": 1}, session, "set_price", 0, 6)

    def test_undo_does_not_raise_it(self):
        session = Session(*DATA, limit=0)
        self.assert_fails(NothingToUndo, {}, session, "undo")

    def test_before_blocked(self):
        session = GuardedSession(*DATA, limit=0)
        self.assert_fails(TooMany, {"limit": 0}, session, "add_offer", 1, (0, 2))


class TestUndo(SessionCase):
    def test_to_the_first_state(self):
        for made in BOTH:
            session = made(*DATA)
            for operation in RIGHT:
                perform(session, operation)
            states = [state(session, at) for at in range(len(RIGHT) + 1)]
            for at in range(len(RIGHT), 0, -1):
                self.assertEqual(len(session), at)
                session.undo()
                self.assert_same(state(session), states[at - 1])
            self.assert_same(state(session), DATA)
            self.assert_fails(NothingToUndo, {}, session, "undo")
            self.assert_same(state(session), DATA)

    def test_each_operation(self):
        for operation in RIGHT:
            session = Session(*DATA)
            perform(session, operation)
            self.assertNotEqual(state(session), DATA)
            session.undo()
            self.assert_same((state(session), len(session)), (DATA, 0))
            self.assert_same(session.log(), ((operation[0], "done"), ("undo", "done")))
            self.assertTrue(session == Session(*DATA))

    def test_what_failed_is_not_undone(self):
        session = Session(*DATA)
        session.set_price(0, 9)
        for operation, name in WRONG:
            with self.assertRaises(ValueError):
                perform(session, operation)
        session.undo()
        self.assert_same(state(session), DATA)
        self.assert_fails(NothingToUndo, {}, session, "undo")

    def test_an_operation_without_a_difference_counts(self):
        session = Session(*DATA)
        session.set_price(0, 3)
        self.assertEqual(len(session), 1)
        session.undo()
        self.assert_fails(NothingToUndo, {}, session, "undo")


class TestQueries(SessionCase):
    def test_every_moment(self):
        source = random.Random(29)
        for number in range(40):
            data = data_for([plain.random_table(source, source.randint(1, 4), source.randrange(4))], 9)[0]
            session, states = Session(*data), [data]
            for step in range(6):
                operation = random_operation(source, states[-1])
                perform(session, operation)
                states.append(after(states[-1], operation))
            for at, expected in [*enumerate(states), (None, states[-1])]:
                self.check(session, at, expected)

    def check(self, session, at, expected):
        table, prices, penalties = expected
        self.assert_same(state(session, at), expected)
        self.assert_same(session.cost(at=at), plain.lowest_cost(table, prices, penalties))
        found = session.certificate(at=at)
        self.assert_same(found, certificate(table))
        self.assertIs(is_certificate(table, found), True)
        if found[0] == "ring":
            self.assert_ring(table, found[1])
            for call in (session.payments, session.choice):
                with self.assertRaises(NotOrderable) as context:
                    call(at=at)
                self.assert_ring(table, context.exception.ring)
        else:
            order = first_nested_order(table)
            self.assert_same(session.payments(at=at), pay_along(table, prices, penalties, order))
            self.assert_same(session.choice(at=at), choose_full(table, prices, penalties, order))

    def test_edges(self):
        for data in edge_cases():
            self.check(Session(*data), None, data)
            self.check(Session(*data), 0, data)

    def test_no_moment(self):
        for data in (DATA, (R, (1, 1, 1), (1, 1, 1))):
            session = Session(*data)
            for many in range(3):
                for name in QUERIES:
                    for value in (*NOT_MOMENTS, many + 1, many + 2, -1, True, False):
                        self.check_no_moment(session, name, value)
                session.set_price(0, many)

    def check_no_moment(self, session, name, value):
        with self.assertRaises(ValueError) as context:
            getattr(session, name)(at=value)
        self.assertIs(type(context.exception), NoMoment)
        self.assertIs(context.exception.at, value)

    def test_moments_after_undo(self):
        session = Session(*DATA)
        session.set_price(0, 9)
        session.set_price(0, 8)
        session.undo()
        self.assert_same((session.prices(at=1), session.prices()), ((9, 4), (9, 4)))
        self.check_no_moment(session, "prices", 2)
        session.set_price(1, 7)
        self.assert_same(session.prices(at=2), (9, 7))

    def test_at_is_passed_by_name(self):
        for name in QUERIES:
            with self.assertRaises(TypeError):
                getattr(Session(*DATA), name)(0)

    def test_nothing_changes(self):
        session = Session(*DATA)
        perform(session, RIGHT[0])
        before = whole(session)
        for name in QUERIES:
            for at in (None, 0, 1, 2, True):
                try:
                    self.assert_same(getattr(session, name)(at=at), getattr(session, name)(at=at))
                except NoMoment:
                    pass
        self.assertEqual(whole(session), before)

    def test_largest_are_quick(self):
        for data in data_for(LARGE_TABLES, MAX_AMOUNT):
            session = Session(*data)
            for name in QUERIES:
                self.assert_quick(getattr(session, name))
            self.assert_quick(session.__str__)
        for data in data_for(FREE_TABLES + ORDERABLE_TABLES, MAX_AMOUNT):
            self.assert_quick(GuardedSession, *data)
            session = GuardedSession(*data)
            self.assert_quick(session.apply_all, [("remove_demand", 0), ("add_demand", 1, ())] * (MAX_BATCH // 2))


class TestEquality(SessionCase):
    def test_by_the_state(self):
        others = [DATA, (R, (3, 4, 5), (5, 1, 2)), (T, (3, 5), (5, 1, 2)), (T, (3, 4), (5, 1, 3)),
                  ((3, ((0, 1), (1,))), (3, 4), (5, 1, 2)), ((1, ()), (), (1,))]
        for one, other in itertools.product(others, repeat=2):
            self.assertIs(Session(*one) == Session(*other), one == other)
            self.assertIs(Session(*one) != Session(*other), one != other)
            if R not in (one[0], other[0]):
                self.assertIs(GuardedSession(*one) == GuardedSession(*other), one == other)
                self.assertIs(GuardedSession(*one) != GuardedSession(*other), one != other)

    def test_not_by_the_way_there(self):
        for made in BOTH:
            session = made(*DATA, limit=7)
            session.set_price(0, 9)
            self.assertFalse(session == made(*DATA))
            self.assertTrue(session == made(T, (9, 4), (5, 1, 2)))
            session.set_price(0, 3)
            self.assertTrue(session == made(*DATA))
            self.assertEqual(len(session), 2)

    def test_guarded_and_not(self):
        for data in (DATA, ((1, ()), (), (1,))):
            self.assertIs(Session(*data) == GuardedSession(*data), False)
            self.assertIs(GuardedSession(*data) == Session(*data), False)
            self.assertIs(Session(*data) != GuardedSession(*data), True)
            self.assertIs(Session(*data).__eq__(GuardedSession(*data)), False)

    def test_other_values(self):
        for made in BOTH:
            session = made(*DATA)
            for value in (*ODD_VALUES, DATA, list(DATA), str(session), 0, (), T, Console(session), [session], (session,)):
                self.assertIs(session == value, False)
                self.assertIs(value == session, False)
                self.assertIs(session != value, True)


class TestLenAndStr(SessionCase):
    def test_len(self):
        for made in BOTH:
            session = made(*DATA)
            self.assertEqual(len(session), 0)
            for at, operation in enumerate(RIGHT):
                perform(session, operation)
                self.assertEqual(len(session), at + 1)
            session.undo()
            self.assertEqual(len(session), len(RIGHT) - 1)

    def test_str(self):
        for data in [*edge_cases(), *data_for(list(plain.small_tables())[::50], 9)]:
            demands, offers = data[0]
            expected = f"{demands} demands, {len(offers)} offers, cost {plain.lowest_cost(*data)}"
            self.assert_same(str(Session(*data)), expected)
            if data[0] != R and data[0] not in RING_TABLES:
                self.assert_same(str(GuardedSession(*data)), expected)

    def test_the_same_words_for_all_numbers(self):
        self.assert_same(str(Session((1, ((0,),)), (1,), (1,))), "1 demands, 1 offers, cost 1")
        self.assert_same(str(Session((1, ()), (), (0,))), "1 demands, 0 offers, cost 0")

    def test_the_current_state(self):
        session = Session(*DATA)
        session.remove_demand(0)
        self.assert_same(str(session), "2 demands, 2 offers, cost 3")
        session.undo()
        self.assert_same(str(session), "3 demands, 2 offers, cost 5")


if __name__ == "__main__":
    unittest.main()
