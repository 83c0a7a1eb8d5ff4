"""The exceptions of the package.

The message of each one is the name of its class, because logs and consoles show that name.
"""


class OrderError(ValueError):
    """The base of all exceptions of the package."""


class NoDemand(OrderError):
    """The argument is not the number of a demand."""

    def __init__(self, demand):
        self.demand = demand

    def __str__(self):
        return "NoDemand"


class NoDemands(OrderError):
    """The argument is not a tuple of demands as it is asked for."""

    def __str__(self):
        return "NoDemands"


class NoOffer(OrderError):
    """The argument is not the number of an offer."""

    def __init__(self, offer):
        self.offer = offer

    def __str__(self):
        return "NoOffer"


class NoOffers(OrderError):
    """The table has no offers."""

    def __str__(self):
        return "NoOffers"


class NoOrder(OrderError):
    """The argument is not an order as it is asked for."""

    def __str__(self):
        return "NoOrder"


class NotOrderable(OrderError):
    """The table has no nested order; the ring is the certificate."""

    def __init__(self, ring):
        self.ring = ring

    def __str__(self):
        return "NotOrderable"


class NoIndex(OrderError):
    """There is no nested order with that index."""

    def __init__(self, index):
        self.index = index

    def __str__(self):
        return "NoIndex"


class NoChoice(OrderError):
    """The argument is not a choice of the table."""

    def __str__(self):
        return "NoChoice"


class NotCovered(OrderError):
    """No offer covers that demand."""

    def __init__(self, demand):
        self.demand = demand

    def __str__(self):
        return "NotCovered"


class NoIntervals(OrderError):
    """The argument is not a tuple of intervals."""

    def __str__(self):
        return "NoIntervals"


class NoVertex(OrderError):
    """The argument is not a vertex of the tree."""

    def __init__(self, vertex):
        self.vertex = vertex

    def __str__(self):
        return "NoVertex"


class NoBalls(OrderError):
    """The argument is not a tuple of balls of the tree."""

    def __str__(self):
        return "NoBalls"


class NoPosition(OrderError):
    """The argument is not a demand of the line."""

    def __init__(self, position):
        self.position = position

    def __str__(self):
        return "NoPosition"


class NoPositions(OrderError):
    """The argument is not a tuple of demands of the line as it is asked for."""

    def __str__(self):
        return "NoPositions"


class NoAmount(OrderError):
    """The argument is not an amount."""

    def __init__(self, amount):
        self.amount = amount

    def __str__(self):
        return "NoAmount"


class TooMany(OrderError):
    """There are as many already as the limit allows."""

    def __init__(self, limit):
        self.limit = limit

    def __str__(self):
        return "TooMany"


class LastDemand(OrderError):
    """The demand is the only one."""

    def __str__(self):
        return "LastDemand"


class BadTable(OrderError):
    """The argument is not a table."""

    def __str__(self):
        return "BadTable"


class BadPrices(OrderError):
    """The argument is not prices for the table."""

    def __str__(self):
        return "BadPrices"


class BadPenalties(OrderError):
    """The argument is not penalties for the table."""

    def __str__(self):
        return "BadPenalties"


class NothingToUndo(OrderError):
    """No operation is in effect."""

    def __str__(self):
        return "NothingToUndo"


class NoMoment(OrderError):
    """The session has no such state."""

    def __init__(self, at):
        self.at = at

    def __str__(self):
        return "NoMoment"


class NoOperations(OrderError):
    """The argument is not a batch of operations."""

    def __str__(self):
        return "NoOperations"


class Failed(OrderError):
    """The operation at that index of a batch raised an exception."""

    def __init__(self, index):
        self.index = index

    def __str__(self):
        return "Failed"


class Blocked(OrderError):
    """The table that would result has no nested order; the ring is its certificate."""

    def __init__(self, ring):
        self.ring = ring

    def __str__(self):
        return "Blocked"


class BadText(OrderError):
    """The argument is not a text of the format; line is the index of its first wrong line."""

    def __init__(self, line):
        self.line = line

    def __str__(self):
        return "BadText"
