"""The console: a session that is used by lines of text."""

from payorder.errors import OrderError
from payorder.failures import find_failure
from payorder.orders import first_nested_order
from payorder.rings import find_ring
from payorder.texts import format_order, join_numbers, parse_number

HISTORY_SIZE = 20


def run_add_demand(session, numbers):
    """Perform add_demand: the first number is the penalty, the others are the offers."""
    session.add_demand(numbers[0], numbers[1:])
    return "done"


def run_remove_demand(session, numbers):
    """Perform remove_demand."""
    session.remove_demand(numbers[0])
    return "done"


def run_add_offer(session, numbers):
    """Perform add_offer: the first number is the price, the others are the demands."""
    session.add_offer(numbers[0], numbers[1:])
    return "done"


def run_remove_offer(session, numbers):
    """Perform remove_offer."""
    session.remove_offer(numbers[0])
    return "done"


def run_set_price(session, numbers):
    """Perform set_price."""
    session.set_price(numbers[0], numbers[1])
    return "done"


def run_set_penalty(session, numbers):
    """Perform set_penalty."""
    session.set_penalty(numbers[0], numbers[1])
    return "done"


def run_undo(session, numbers):
    """Perform undo."""
    session.undo()
    return "done"


def tell_order(session, numbers):
    """Return the first nested order."""
    return format_order(first_nested_order(session.table()))


def tell_ring(session, numbers):
    """Return a ring, or none."""
    return tell_rows(find_ring(session.table()))


def tell_payments(session, numbers):
    """Return the payments."""
    return join_numbers(" ", session.payments())


def tell_choice(session, numbers):
    """Return the choice, or a sign that it is empty."""
    choice = session.choice()
    return "-" if len(choice) == 0 else join_numbers(",", choice)


def tell_cost(session, numbers):
    """Return the lowest cost."""
    return str(session.cost())


def tell_failure(session, numbers):
    """Return a failure of the order that the numbers are, or none."""
    return tell_rows(find_failure(session.table(), numbers))


def tell_rows(rows):
    """Return the tuples of a ring or a failure in words, or none if there is no such thing."""
    if rows is None:
        return "none"
    return " ".join([join_numbers(",", row) for row in rows])


ACTIONS = {
    "add_demand": run_add_demand,
    "remove_demand": run_remove_demand,
    "add_offer": run_add_offer,
    "remove_offer": run_remove_offer,
    "set_price": run_set_price,
    "set_penalty": run_set_penalty,
    "undo": run_undo,
    "order": tell_order,
    "ring": tell_ring,
    "payments": tell_payments,
    "choice": tell_choice,
    "cost": tell_cost,
    "failure": tell_failure,
}

# How many numbers stand behind each word; those that end in a list take more, too.
NUMBERS = {
    "add_demand": 1,
    "remove_demand": 1,
    "add_offer": 1,
    "remove_offer": 1,
    "set_price": 2,
    "set_penalty": 2,
    "undo": 0,
    "order": 0,
    "ring": 0,
    "payments": 0,
    "choice": 0,
    "cost": 0,
    "failure": 0,
}

WITH_LIST = ("add_demand", "add_offer", "failure")


def parse_command(line):
    """Return the word and the tuple of the numbers of a valid line, or None for anything else."""
    if not isinstance(line, str):
        return None
    words = line.split(" ")
    numbers = tuple([parse_number(word) for word in words[1:]])
    if None in numbers or not takes_numbers(words[0], len(numbers)):
        return None
    return words[0], numbers


def takes_numbers(word, many):
    """Return whether the word is a command that may be followed by that many numbers."""
    if word not in NUMBERS:
        return False
    return many == NUMBERS[word] or word in WITH_LIST and many > NUMBERS[word]


def answer_to(session, line):
    """Return the answer of the session to a line."""
    command = parse_command(line)
    if command is None:
        return "syntax error"
    word, numbers = command
    action = ACTIONS[word]
    try:
        return action(session, numbers)
    except OrderError as e:
        return "error " + str(e)


class Console:
    """A console, which uses the given session itself."""

    def __init__(self, session):
        self.session = session
        self.pairs = []

    def execute(self, line):
        """Return the answer to a line."""
        answer = answer_to(self.session, line)
        self.pairs.append((line if isinstance(line, str) else None, answer))
        self.pairs = self.pairs[-HISTORY_SIZE:]
        return answer

    def history(self):
        """Return the last lines, each with its answer."""
        return tuple(self.pairs)
