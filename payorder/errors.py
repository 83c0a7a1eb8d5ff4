"""The exceptions of the package."""


class OrderError(ValueError):
    """The base of all exceptions of the package."""


class NoDemand(OrderError):
    """The argument is not the number of a demand."""

    def __init__(self, demand):
        self.demand = demand


class NoDemands(OrderError):
    """The argument is not a tuple of demands as it is asked for."""


class NoOffer(OrderError):
    """The argument is not the number of an offer."""

    def __init__(self, offer):
        self.offer = offer


class NoOffers(OrderError):
    """The table has no offers."""


class NoOrder(OrderError):
    """The argument is not an order as it is asked for."""


class NotOrderable(OrderError):
    """The table has no nested order; the ring is the certificate."""

    def __init__(self, ring):
        self.ring = ring


class NoIndex(OrderError):
    """There is no nested order with that index."""

    def __init__(self, index):
        self.index = index


class NoChoice(OrderError):
    """The argument is not a choice of the table."""


class NotCovered(OrderError):
    """No offer covers that demand."""

    def __init__(self, demand):
        self.demand = demand


class NoIntervals(OrderError):
    """The argument is not a tuple of intervals."""


class NoVertex(OrderError):
    """The argument is not a vertex of the tree."""

    def __init__(self, vertex):
        self.vertex = vertex


class NoBalls(OrderError):
    """The argument is not a tuple of balls of the tree."""


class NoPosition(OrderError):
    """The argument is not a demand of the line."""

    def __init__(self, position):
        self.position = position


class NoPositions(OrderError):
    """The argument is not a tuple of demands of the line as it is asked for."""


class NoAmount(OrderError):
    """The argument is not an amount."""

    def __init__(self, amount):
        self.amount = amount


class TooMany(OrderError):
    """There are as many already as the limit allows."""

    def __init__(self, limit):
        self.limit = limit


class LastDemand(OrderError):
    """The demand is the only one."""


class BadTable(OrderError):
    """The argument is not a table."""


class BadPrices(OrderError):
    """The argument is not prices for the table."""


class BadPenalties(OrderError):
    """The argument is not penalties for the table."""


class NothingToUndo(OrderError):
    """No operation is in effect."""


class NoMoment(OrderError):
    """The session has no such state."""

    def __init__(self, at):
        self.at = at


class NoOperations(OrderError):
    """The argument is not a batch of operations."""


class Failed(OrderError):
    """The operation at that index of a batch raised an exception."""

    def __init__(self, index):
        self.index = index


class Blocked(OrderError):
    """The table that would result has no nested order; the ring is its certificate."""

    def __init__(self, ring):
        self.ring = ring


class BadText(OrderError):
    """The argument is not a text of the format; line is the index of its first wrong line."""

    def __init__(self, line):
        self.line = line
