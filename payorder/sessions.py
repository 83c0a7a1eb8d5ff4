"""Sessions: a table with prices and penalties that change by operations, which can be undone."""

from payorder.checks import is_number_below
from payorder.errors import Failed, NoMoment, NoOperations, NothingToUndo, OrderError, TooMany
from payorder.limits import LOG_SIZE, MAX_OPERATIONS
from payorder.states import (
    certificate_of, changed, check_not_blocked, checked_state, choice_of, cost_of, described, is_batch, payments_of,
)


class Session:
    """A session, which takes every table."""

    def __init__(self, table, prices, penalties, *, limit=MAX_OPERATIONS):
        self.now = checked_state(table, prices, penalties)
        if self.is_guarded():
            check_not_blocked(self.now)
        # The states before each of the operations in effect.
        self.past = []
        self.limit = limit
        self.entries = []

    def is_guarded(self):
        """Return whether the session takes only tables with a nested order."""
        return False

    def perform(self, word, arguments):
        """Perform an operation without an entry in the log."""
        if len(self.past) >= self.limit:
            raise TooMany(self.limit)
        state = changed(self.now, word, arguments)
        if self.is_guarded():
            check_not_blocked(state)
        self.past.append(self.now)
        self.now = state

    def attempt(self, word, arguments):
        """Perform an operation and record how it ended."""
        try:
            self.perform(word, arguments)
        except OrderError as e:
            self.record(word, str(e))
            raise
        self.record(word, "done")

    def record(self, word, outcome):
        """Add an entry to the log."""
        self.entries.append((word, outcome))
        self.entries = self.entries[-LOG_SIZE:]

    def state_at(self, at):
        """Return the state at that moment."""
        if at is None:
            return self.now
        if not is_number_below(at, len(self.past) + 1):
            raise NoMoment(at)
        return self.past[at] if at < len(self.past) else self.now

    def pass_on(self, twin):
        """Return the twin, a session with the same state, with the same operations in effect and the same log."""
        twin.past = list(self.past)
        twin.entries = list(self.entries)
        return twin

    def add_demand(self, penalty, offers):
        """Add a demand, which the given offers cover."""
        self.attempt("add_demand", (penalty, offers))

    def remove_demand(self, demand):
        """Remove a demand and its penalty."""
        self.attempt("remove_demand", (demand,))

    def add_offer(self, price, demands):
        """Add an offer, which covers the given demands."""
        self.attempt("add_offer", (price, demands))

    def remove_offer(self, offer):
        """Remove an offer and its price."""
        self.attempt("remove_offer", (offer,))

    def set_price(self, offer, price):
        """Replace the price of an offer."""
        self.attempt("set_price", (offer, price))

    def set_penalty(self, demand, penalty):
        """Replace the penalty of a demand."""
        self.attempt("set_penalty", (demand, penalty))

    def undo(self):
        """Revert the last operation that is in effect."""
        if len(self.past) == 0:
            self.record("undo", "NothingToUndo")
            raise NothingToUndo()
        self.now = self.past.pop()
        self.record("undo", "done")

    def apply_all(self, operations):
        """Perform all the operations in order, or none."""
        if not is_batch(operations):
            raise NoOperations()
        past = list(self.past)
        now = self.now
        for index, operation in enumerate(operations):
            try:
                self.perform(operation[0], operation[1:])
            except OrderError as e:
                self.past = past
                self.now = now
                self.record_all(operations[:index], "reverted")
                self.record(operation[0], str(e))
                raise Failed(index)
        self.record_all(operations, "done")

    def record_all(self, operations, outcome):
        """Add an entry for each of the operations to the log."""
        for operation in operations:
            self.record(operation[0], outcome)

    def log(self):
        """Return the last entries of the log."""
        return tuple(self.entries)

    def table(self, *, at=None):
        """Return the table."""
        return self.state_at(at)[0]

    def prices(self, *, at=None):
        """Return the prices."""
        return self.state_at(at)[1]

    def penalties(self, *, at=None):
        """Return the penalties."""
        return self.state_at(at)[2]

    def certificate(self, *, at=None):
        """Return the certificate of the table."""
        return certificate_of(self.state_at(at))

    def cost(self, *, at=None):
        """Return the lowest cost of a choice."""
        return cost_of(self.state_at(at))

    def payments(self, *, at=None):
        """Return the payments along the first nested order."""
        return payments_of(self.state_at(at))

    def choice(self, *, at=None):
        """Return a cheapest choice, found along the first nested order."""
        return choice_of(self.state_at(at))

    def clone(self):
        """Return an independent session that is like this one."""
        table, prices, penalties = self.now
        return self.pass_on(Session(table, prices, penalties, limit=self.limit))

    def __len__(self):
        return len(self.past)

    def __str__(self):
        return f"{described(self.now)}"

    def __eq__(self, other):
        return isinstance(other, Session) and self.is_guarded() == other.is_guarded() and self.now == other.now


class GuardedSession(Session):
    """A session that takes only tables with a nested order.

    The methods that it has in common with every session stand here too, because the interface lists them for it.
    """

    def __init__(self, table, prices, penalties, *, limit=MAX_OPERATIONS):
        super().__init__(table, prices, penalties, limit=limit)

    def is_guarded(self):
        """Return whether the session takes only tables with a nested order."""
        return True

    def add_demand(self, penalty, offers):
        """Add a demand, unless the table would have no nested order."""
        super().add_demand(penalty, offers)

    def remove_demand(self, demand):
        """Remove a demand and its penalty."""
        super().remove_demand(demand)

    def add_offer(self, price, demands):
        """Add an offer, unless the table would have no nested order."""
        super().add_offer(price, demands)

    def remove_offer(self, offer):
        """Remove an offer and its price."""
        super().remove_offer(offer)

    def set_price(self, offer, price):
        """Replace the price of an offer."""
        super().set_price(offer, price)

    def set_penalty(self, demand, penalty):
        """Replace the penalty of a demand."""
        super().set_penalty(demand, penalty)

    def undo(self):
        """Revert the last operation that is in effect."""
        super().undo()

    def apply_all(self, operations):
        """Perform all the operations in order, or none."""
        super().apply_all(operations)

    def log(self):
        """Return the last entries of the log."""
        return super().log()

    def table(self, *, at=None):
        """Return the table."""
        return super().table(at=at)

    def prices(self, *, at=None):
        """Return the prices."""
        return super().prices(at=at)

    def penalties(self, *, at=None):
        """Return the penalties."""
        return super().penalties(at=at)

    def certificate(self, *, at=None):
        """Return the certificate of the table."""
        return super().certificate(at=at)

    def cost(self, *, at=None):
        """Return the lowest cost of a choice."""
        return super().cost(at=at)

    def payments(self, *, at=None):
        """Return the payments along the first nested order."""
        return super().payments(at=at)

    def choice(self, *, at=None):
        """Return a cheapest choice, found along the first nested order."""
        return super().choice(at=at)

    def clone(self):
        """Return an independent session that is like this one."""
        table, prices, penalties = self.now
        return self.pass_on(GuardedSession(table, prices, penalties, limit=self.limit))

    def __len__(self):
        return len(self.past)

    def __str__(self):
        return f"{described(self.now)}"

    def __eq__(self, other):
        return isinstance(other, GuardedSession) and self.now == other.now
