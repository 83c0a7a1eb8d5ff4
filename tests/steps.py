"""What the tests of sessions share: operations, and their effects by the words of the document."""

import copy

import plain
from cases import Case
from payorder.errors import Blocked
from payorder.limits import LOG_SIZE, MAX_AMOUNT, MAX_DEMANDS, MAX_OFFERS, MAX_OPERATIONS
from payorder.rings import is_ring
from payorder.sessions import GuardedSession, Session
from samples import LONG, NOT_ASCENDING, ODD_VALUES, T

DATA = (T, (3, 4), (5, 1, 2))
BOTH = (Session, GuardedSession)

NOT_NUMBERS = ODD_VALUES + NOT_ASCENDING + ((), (0,), (1,), (0, 1), -1, -2, LONG, -LONG)
NOT_AMOUNTS = NOT_NUMBERS + (MAX_AMOUNT + 1,)
NOT_TUPLES = ODD_VALUES + NOT_ASCENDING + (0, 1, -1, LONG)
# None is the current moment.
NOT_MOMENTS = NOT_NUMBERS[1:] + ("None", MAX_OPERATIONS + 1)

OPERATIONS = {
    "add_demand": ["penalty", "offers"],
    "remove_demand": ["demand"],
    "add_offer": ["price", "demands"],
    "remove_offer": ["offer"],
    "set_price": ["offer", "price"],
    "set_penalty": ["demand", "penalty"],
}
QUERIES = ("table", "prices", "penalties", "certificate", "cost", "payments", "choice")
OTHERS = {"undo": [], "apply_all": ["operations"], "log": [], "clone": []}

# Each of these succeeds on DATA and changes it.
RIGHT = (
    ("add_demand", 9, (0,)), ("remove_demand", 0), ("add_offer", 7, (0,)), ("remove_offer", 1), ("set_price", 0, 9),
    ("set_penalty", 2, 0),
)
# Each of these fails on DATA, with this exception.
WRONG = (
    (("add_demand", -1, (0,)), "NoAmount"), (("add_demand", 1, (0, 2)), "NoChoice"), (("remove_demand", 3), "NoDemand"),
    (("add_offer", True, (0,)), "NoAmount"), (("add_offer", 1, [0]), "NoDemands"), (("remove_offer", 2), "NoOffer"),
    (("set_price", "0", 9), "NoOffer"), (("set_price", 0, MAX_AMOUNT + 1), "NoAmount"), (("set_penalty", 3, 1), "NoDemand"),
    (("set_penalty", 0, None), "NoAmount"),
)


def state(session, at=None):
    return session.table(at=at), session.prices(at=at), session.penalties(at=at)


def whole(session):
    """All that can be seen of a session."""
    moments = tuple([state(session, at) for at in range(len(session) + 1)])
    return state(session), moments, len(session), session.log(), str(session)


def perform(session, operation):
    return getattr(session, operation[0])(*operation[1:])


def after(data, operation):
    """The state after an operation that succeeds, by the words of the document."""
    (demands, offers), prices, penalties = copy.deepcopy(data)
    rows = [[demand in offer for demand in range(demands)] for offer in offers]
    prices, penalties = list(prices), list(penalties)
    word, *arguments = operation
    if word == "add_demand":
        for number, row in enumerate(rows):
            row.append(number in arguments[1])
        penalties.append(arguments[0])
    elif word == "remove_demand":
        for row in rows:
            row.pop(arguments[0])
        penalties.pop(arguments[0])
    elif word == "add_offer":
        rows.append([demand in arguments[1] for demand in range(demands)])
        prices.append(arguments[0])
    elif word == "remove_offer":
        rows.pop(arguments[0])
        prices.pop(arguments[0])
    elif word == "set_price":
        prices[arguments[0]] = arguments[1]
    elif word == "set_penalty":
        penalties[arguments[0]] = arguments[1]
    table = (len(penalties), tuple([tuple([at for at, inside in enumerate(row) if inside]) for row in rows]))
    return table, tuple(prices), tuple(penalties)


def random_operation(source, data):
    """An operation that succeeds on these data, if they are not at a limit and every table is taken."""
    (demands, offers), prices, penalties = data
    words = ["add_demand", "add_offer", "set_penalty"] + ["remove_demand"] * (demands > 1)
    words += ["remove_offer", "set_price"] * (len(offers) > 0)
    word = source.choice(words)
    amount = source.choice((0, 1, 5, MAX_AMOUNT))
    if word == "add_demand":
        return word, amount, source.choice(plain.subsets(range(len(offers))))
    if word == "add_offer":
        return word, amount, source.choice(plain.subsets(range(demands)))
    if word == "remove_demand":
        return word, source.randrange(demands)
    if word == "remove_offer":
        return word, source.randrange(len(offers))
    if word == "set_price":
        return word, source.randrange(len(offers)), amount
    return word, source.randrange(demands), amount


def fits(data, operation):
    """Whether the operation stays within the limits of tables."""
    full = {"add_demand": data[0][0] == MAX_DEMANDS, "add_offer": len(data[0][1]) == MAX_OFFERS}
    return not full.get(operation[0], False)


class SessionCase(Case):
    def assert_fails(self, kind, attributes, session, *operation):
        """The operation raises just this exception, changes nothing, and is recorded."""
        before, log = whole(session), session.log()
        self.assert_raises(kind, attributes, getattr(session, operation[0]), *operation[1:])
        self.assertEqual(whole(session)[:3], before[:3])
        self.assert_same(session.log(), (*log, (operation[0], kind.__name__))[-LOG_SIZE:])

    def assert_blocked(self, table, call, *arguments):
        """The call raises Blocked with a ring of that table."""
        with self.assertRaises(ValueError) as context:
            call(*arguments)
        self.assertIs(type(context.exception), Blocked)
        self.assertEqual(list(vars(context.exception)), ["ring"])
        self.assert_ring(table, context.exception.ring)
        self.assertIs(is_ring(table, context.exception.ring), True)
