"""Points 61 and 75: guarded sessions, and clones."""

import random
import unittest

import plain
from payorder.errors import BadPenalties, BadPrices, Failed, NoAmount, NoOffer, NothingToUndo, TooMany
from payorder.limits import LOG_SIZE, MAX_DEMANDS, MAX_OFFERS, MAX_OPERATIONS
from payorder.orders import is_nested_order
from payorder.rings import certificate
from payorder.sessions import GuardedSession, Session
from plain import RING_TABLES, data_for, edge_cases
from samples import R
from steps import BOTH, DATA, QUERIES, RIGHT, WRONG, SessionCase, after, fits, perform, random_operation, state, whole


class TestGuarded(SessionCase):
    def test_constructor(self):
        for data in [*data_for(list(plain.small_tables()) + plain.random_tables(40, 4, 4), 9), *edge_cases()]:
            if plain.rings(data[0]) if data[0][0] < 5 else data[0] in RING_TABLES:
                self.assert_blocked(data[0], GuardedSession, *data)
            else:
                self.assert_same(state(GuardedSession(*data)), data)

    def test_blocked_comes_last_in_the_constructor(self):
        self.assert_raises(BadPrices, {}, GuardedSession, R, (1, 1), (1, 1, 1))
        self.assert_raises(BadPenalties, {}, GuardedSession, R, (1, 1, 1), (1, 1))
        self.assert_blocked(R, GuardedSession, R, (1, 1, 1), (1, 1, 1))

    def test_blocked_operations(self):
        session = GuardedSession(*DATA)
        before = whole(session)
        self.assert_blocked(R, session.add_offer, 1, (0, 2))
        self.assertEqual(whole(session)[:3], before[:3])
        self.assert_same(session.log(), (("add_offer", "Blocked"),))
        path = GuardedSession((3, ((0, 1), (1, 2), (0,))), (1, 1, 1), (1, 1, 1))
        # A ring of three demands needs the new one: it is covered by the second and the third offer.
        wide = (4, ((0, 1), (1, 2, 3), (0, 3)))
        self.assert_blocked(wide, path.add_demand, 1, (1, 2))
        self.assert_same(path.log(), (("add_demand", "Blocked"),))

    def test_blocked_comes_last(self):
        session = GuardedSession(*DATA)
        self.assert_fails(NoAmount, {"amount": -1}, session, "add_offer", -1, (0, 2))
        full = GuardedSession((3, ((0, 1), (1, 2)) + ((),) * (MAX_OFFERS - 2)), (1,) * MAX_OFFERS, (1, 1, 1))
        self.assert_fails(TooMany, {"limit": MAX_OFFERS}, full, "add_offer", 1, (0, 2))
        wide = GuardedSession((MAX_DEMANDS, ((0, 1), (1, 2), (0,))), (1, 1, 1), (1,) * MAX_DEMANDS)
        self.assert_fails(TooMany, {"limit": MAX_DEMANDS}, wide, "add_demand", 1, (1, 2))

    def test_within_apply_all(self):
        session = GuardedSession(*DATA)
        before = whole(session)
        # The table would have a nested order again after the third operation.
        batch = [("set_price", 0, 1), ("add_offer", 1, (0, 2)), ("remove_offer", 0)]
        self.assert_raises(Failed, {"index": 1}, session.apply_all, batch)
        self.assertEqual(whole(session)[:3], before[:3])
        self.assert_same(session.log(), (("set_price", "reverted"), ("add_offer", "Blocked")))
        session.apply_all([batch[0], batch[2], ("add_offer", 1, (0, 2))])
        self.assert_same(session.table(), (3, ((1, 2), (0, 2))))

    def test_other_operations_work_alike(self):
        for operation in RIGHT:
            session, other = GuardedSession(*DATA), Session(*DATA)
            perform(session, operation)
            perform(other, operation)
            self.assertEqual(whole(session), whole(other))
        for operation, name in WRONG:
            session = GuardedSession(*DATA)
            with self.assertRaises(ValueError) as context:
                perform(session, operation)
            self.assertEqual(type(context.exception).__name__, name)
            self.assert_same(session.log(), ((operation[0], name),))

    def test_always_orderable(self):
        """Guarantee (i): whatever happens, there is a nested order."""
        source = random.Random(31)
        blocked = 0
        for number in range(150):
            session = GuardedSession(*DATA)
            for step in range(30):
                data = state(session)
                operation = random_operation(source, data)
                if not fits(data, operation) or len(session) == MAX_OPERATIONS:
                    continue
                wanted = after(data, operation)
                if certificate(wanted[0])[0] == "ring":
                    self.assert_blocked(wanted[0], perform, session, operation)
                    self.assert_same(state(session), data)
                    blocked += 1
                else:
                    perform(session, operation)
                    self.assert_same(state(session), wanted)
                if source.randrange(5) == 0 and len(session):
                    session.undo()
            for at in range(len(session) + 1):
                self.assertIs(is_nested_order(session.table(at=at), session.certificate(at=at)[1]), True)
                session.payments(at=at)
                session.choice(at=at)
        self.assertGreater(blocked, 30)


class TestClone(SessionCase):
    def make(self, made, limit):
        session = made(*DATA, limit=limit)
        session.set_price(0, 9)
        session.add_offer(2, (0, 1))
        with self.assertRaises(NoOffer):
            session.remove_offer(7)
        return session

    def test_the_same(self):
        for made in BOTH:
            session = self.make(made, 5)
            twin = session.clone()
            self.assertIs(type(twin), made)
            self.assertIsNot(twin, session)
            self.assertEqual(whole(twin), whole(session))
            self.assertTrue(twin == session)
            for at in range(3):
                for name in QUERIES:
                    self.assert_same(getattr(twin, name)(at=at), getattr(session, name)(at=at))

    def test_independent(self):
        for made in BOTH:
            session = self.make(made, 9)
            self.check_independent(session, session.clone())
            session = self.make(made, 9)
            self.check_independent(session.clone(), session)

    def check_independent(self, changing, kept):
        before = whole(kept)
        changing.set_penalty(0, 0)
        self.assertEqual(whole(kept), before)
        for number in range(3):
            changing.undo()
        with self.assertRaises(NothingToUndo):
            changing.undo()
        self.assertEqual(whole(kept), before)
        changing.apply_all(RIGHT)
        self.assertEqual(whole(kept), before)
        self.assertFalse(changing == kept)

    def test_undo_of_a_clone(self):
        session = self.make(Session, 9)
        twin = session.clone()
        twin.undo()
        twin.undo()
        self.assert_same(state(twin), DATA)
        self.assert_same(twin.log()[-2:], (("undo", "done"), ("undo", "done")))
        self.assertEqual(len(session), 2)

    def test_limit(self):
        for made in BOTH:
            twin = self.make(made, 3).clone()
            twin.set_price(0, 1)
            self.assert_fails(TooMany, {"limit": 3}, twin, "set_price", 0, 1)

    def test_a_guarded_clone_is_guarded(self):
        twin = GuardedSession(*DATA).clone()
        self.assert_blocked(R, twin.add_offer, 1, (0, 2))
        self.assert_blocked(R, twin.clone().add_offer, 1, (0, 2))
        free = Session(*DATA).clone()
        free.add_offer(1, (0, 2))
        self.assert_same(free.table(), R)

    def test_a_long_log(self):
        session = Session(*DATA)
        for number in range(LOG_SIZE):
            session.set_price(0, number)
            session.undo()
        self.assertEqual(session.clone().log(), session.log())
        self.assertEqual(len(session.clone().log()), LOG_SIZE)


if __name__ == "__main__":
    unittest.main()
