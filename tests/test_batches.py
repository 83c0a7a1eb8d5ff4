"""Points 69 and 70: operations that are performed together, and the log."""

import unittest

from payorder.errors import Blocked, Failed, NoOffer, NoOperations, NothingToUndo, TooMany
from payorder.limits import LOG_SIZE, MAX_BATCH, MAX_DEMANDS, MAX_OFFERS, MAX_OPERATIONS
from payorder.sessions import GuardedSession, Session
from samples import LONG, NOT_ASCENDING, ODD_VALUES, R, T, same
from steps import BOTH, DATA, NOT_AMOUNTS, QUERIES, RIGHT, WRONG, SessionCase, perform, state, whole


class TestApplyAll(SessionCase):
    def test_lists_and_tuples(self):
        for made in BOTH:
            for batch in ([], (), list(RIGHT), RIGHT, RIGHT[:1], list(RIGHT[:2])):
                session, other = made(*DATA), made(*DATA)
                self.assertIsNone(session.apply_all(batch))
                for operation in batch:
                    perform(other, operation)
                self.assert_same(whole(session), whole(other))
                self.assertEqual(len(session), len(batch))

    def test_each_counts_for_undo(self):
        session = Session(*DATA)
        session.apply_all(RIGHT)
        for at in range(len(RIGHT), 0, -1):
            self.assertEqual(len(session), at)
            session.undo()
        self.assert_same(state(session), DATA)

    def test_number_of_operations(self):
        for made in BOTH:
            for kind in (list, tuple):
                session = made(*DATA)
                session.apply_all(kind([("set_price", 0, 1)] * MAX_BATCH))
                self.assertEqual(len(session), MAX_BATCH)
                for more in (1, 2, 100):
                    self.assert_no_operations(session, kind([("set_price", 0, 1)] * (MAX_BATCH + more)))

    def assert_no_operations(self, session, value):
        """NoOperations is raised, nothing changes, and nothing is recorded."""
        before = whole(session)
        self.assert_raises(NoOperations, {}, session.apply_all, value)
        self.assertEqual(whole(session), before)

    def test_other_values(self):
        for session in (Session(*DATA), GuardedSession(*DATA), Session(*DATA, limit=0)):
            for value in (*ODD_VALUES, *NOT_ASCENDING, 0, 1, LONG, "undo", "set_price", {"set_price": 1}, session, (0,)):
                if not same(value, []):
                    self.assert_no_operations(session, value)

    def test_wrong_operations(self):
        wrong = [*ODD_VALUES, *NOT_ASCENDING, 0, (), "undo", "set_price", ["set_price", 0, 9], ("undo",), ("apply_all", ()),
                 ("apply_all", []), ("log",), ("clone",), ("table",), ("cost",), ("perform", "set_price", (0, 9)),
                 ("__init__", T, (3, 4), (5, 1, 2)), ("set_prices", 0, 9), ("SET_PRICE", 0, 9), ("set_price ", 0, 9),
                 ("", 0, 9), (None, 0, 9), (True, 0, 9), (0, 0, 9), (("set_price",), 0, 9), (["set_price"], 0, 9),
                 ({}, 0, 9), (("set_price", 0, 9),), ("set_price", (0, 9)), ("set_price", 0), ("set_price", 0, 9, 1),
                 ("set_price",), ("remove_offer",), ("remove_offer", 0, 1), ("add_offer", 1), ("add_offer", 1, 0, 1),
                 ("add_demand", 1), ("add_demand", 1, (0,), None), ("remove_demand",), ("remove_demand", 0, 0),
                 ("set_penalty", 0), ("set_penalty", 0, 1, 2), {"set_price": 0}]
        for made in BOTH:
            session = made(*DATA)
            for value in wrong:
                for kind in (list, tuple):
                    self.assert_no_operations(session, kind([value]))
                    self.assert_no_operations(session, kind([("set_price", 0, 9), value]))
                    self.assert_no_operations(session, kind([("remove_offer", 99), value]))

    def test_before_all_other_checks(self):
        session = Session(*DATA, limit=0)
        self.assert_no_operations(session, [("remove_offer", 99), ("undo",)])
        self.assert_no_operations(session, None)

    def test_all_or_none(self):
        for made in BOTH:
            for at in range(len(RIGHT) + 1):
                for operation, name in WRONG:
                    session = made(*DATA)
                    session.set_price(0, 3)
                    before = whole(session)
                    batch = [("set_price", 0, 8)] * at + [operation, ("set_price", 0, 7), ("remove_demand", 99)]
                    self.assert_raises(Failed, {"index": at}, session.apply_all, batch)
                    self.assertEqual(whole(session)[:3], before[:3])
                    expected = (("set_price", "reverted"),) * at + ((operation[0], name),)
                    self.assert_same(session.log(), (("set_price", "done"), *expected))

    def test_arguments_of_every_kind(self):
        for value in NOT_AMOUNTS:
            session = Session(*DATA)
            self.assert_raises(Failed, {"index": 1}, session.apply_all, [("set_price", 0, 1), ("set_price", 0, value)])
            self.assert_raises(Failed, {"index": 0}, session.apply_all, (("add_offer", value, value),))
            self.assert_same(state(session), DATA)

    def test_each_sees_the_ones_before(self):
        session = Session(*DATA)
        session.apply_all([("add_offer", 1, (0, 2)), ("set_price", 2, 5), ("add_demand", 6, (2,)), ("remove_demand", 3)])
        self.assert_same(state(session), (R, (3, 4, 5), (5, 1, 2)))

    def test_too_many(self):
        for limit in (0, 1, 3, MAX_OPERATIONS):
            session = Session(*DATA, limit=limit)
            for number in range(max(0, limit - 2)):
                session.set_price(0, number)
            before, room = whole(session), min(limit, 2)
            self.assert_raises(Failed, {"index": room}, session.apply_all, [("set_price", 0, 1)] * (room + 1))
            self.assertEqual(whole(session)[:3], before[:3])
            self.assert_same(session.log()[len(before[3]):], (("set_price", "reverted"),) * room + (("set_price", "TooMany"),))
            session.apply_all([("set_price", 0, 1)] * room)
            self.assertEqual(len(session), limit)
            session.apply_all([])
            self.assert_raises(Failed, {"index": 0}, session.apply_all, [("set_price", 99, 1)])
            self.assertEqual(session.log()[-1], ("set_price", "TooMany"))

    def test_undo_after_a_failure(self):
        session = Session(*DATA)
        session.set_price(0, 9)
        with self.assertRaises(Failed):
            session.apply_all([("set_price", 0, 8), ("remove_offer", 5)])
        session.undo()
        self.assert_same(state(session), DATA)
        self.assert_fails(NothingToUndo, {}, session, "undo")


class TestLog(SessionCase):
    def test_words_and_outcomes(self):
        session = Session(*DATA)
        expected = []
        for operation, name in WRONG:
            with self.assertRaises(ValueError):
                perform(session, operation)
            expected.append((operation[0], name))
            self.assert_same(session.log(), tuple(expected))
        for operation in RIGHT:
            perform(session, operation)
            expected.append((operation[0], "done"))
        for operation in RIGHT + (None,):
            try:
                session.undo()
                expected.append(("undo", "done"))
            except NothingToUndo:
                expected.append(("undo", "NothingToUndo"))
        self.assertEqual(expected[-1], ("undo", "NothingToUndo"))
        self.assert_same(session.log(), tuple(expected))

    def test_all_outcomes(self):
        session = Session((1, ()), (), (1,), limit=1)
        for operation in (("remove_demand", 0), ("remove_demand", 1), ("add_demand", 1, ()), ("add_demand", 1, ())):
            try:
                perform(session, operation)
            except ValueError:
                pass
        self.assert_same([outcome for word, outcome in session.log()], ["LastDemand", "NoDemand", "done", "TooMany"])
        full = Session((MAX_DEMANDS, ((),) * MAX_OFFERS), (0,) * MAX_OFFERS, (0,) * MAX_DEMANDS)
        for operation in (("add_demand", 1, ()), ("add_offer", 1, ())):
            with self.assertRaises(TooMany):
                perform(full, operation)
        self.assert_same(full.log(), (("add_demand", "TooMany"), ("add_offer", "TooMany")))
        guarded = GuardedSession(*DATA)
        with self.assertRaises(Blocked):
            guarded.add_offer(1, (0, 2))
        self.assert_same(guarded.log(), (("add_offer", "Blocked"),))

    def test_the_last_entries(self):
        session = Session(*DATA)
        expected = []
        for number in range(LOG_SIZE + 30):
            if number % 3 == 0:
                session.set_price(0, number)
                expected.append(("set_price", "done"))
            elif number % 3 == 1:
                session.undo()
                expected.append(("undo", "done"))
            else:
                with self.assertRaises(NoOffer):
                    session.remove_offer(9)
                expected.append(("remove_offer", "NoOffer"))
            self.assert_same(session.log(), tuple(expected[-LOG_SIZE:]))
        self.assertEqual(len(session.log()), LOG_SIZE)
        session.apply_all([("set_price", 0, 1)] * MAX_BATCH)
        expected.extend([("set_price", "done")] * MAX_BATCH)
        self.assert_same(session.log(), tuple(expected[-LOG_SIZE:]))

    def test_queries_are_not_recorded(self):
        for data in (DATA, (R, (1, 1, 1), (1, 1, 1))):
            session = Session(*data)
            for name in QUERIES:
                for at in (None, 0, 1, "x"):
                    try:
                        getattr(session, name)(at=at)
                    except ValueError:
                        pass
            for value in (str(session), len(session), session == session, session.clone(), session.log()):
                self.assertEqual(session.log(), ())

    def test_the_result_is_the_callers_own(self):
        session = Session(*DATA)
        session.set_price(0, 1)
        first = session.log()
        session.set_price(0, 2)
        self.assert_same(first, (("set_price", "done"),))
        self.assertIs(type(first), tuple)


if __name__ == "__main__":
    unittest.main()
