"""Points 82 to 84: the console."""

import inspect
import itertools
import random
import re
import unittest

import plain
from cases import Case
from payorder import consoles
from payorder.consoles import Console
from payorder.failures import is_failure
from payorder.limits import LOG_SIZE, MAX_AMOUNT, MAX_DEMANDS, MAX_OFFERS, MAX_OPERATIONS
from payorder.orders import first_nested_order, is_nested_order
from payorder.rings import is_ring
from payorder.sessions import GuardedSession, Session
from plain import EDGE_TABLES, LARGE_TABLES, RING_TABLES, data_for, edge_cases
from samples import LONG, NOT_ASCENDING, ODD_VALUES, R, T
from steps import BOTH, DATA, WRONG, perform, state, whole

RING_DATA = (R, (1, 1, 1), (1, 1, 1))

NUMBER = "(0|[1-9][0-9]{0,12})"
# The valid lines, by the words of the document.
VALID = re.compile(
    f"(add_demand|add_offer) {NUMBER}( {NUMBER})*"
    f"|(remove_demand|remove_offer) {NUMBER}"
    f"|(set_price|set_penalty) {NUMBER} {NUMBER}"
    f"|undo|order|ring|payments|choice|cost|failure( {NUMBER})*"
)

# Words that are no N, though some look like one.
NOT_NUMBERS = (
    "00", "01", "007", "-1", "-0", "+1", "1.0", "1e3", "a", "0x1", "1_0", "1,0", "1,", "(1)", "[1]", "None", "True",
    "10000000000000", "0" * 13, "0" * 14, "1" * 14, "1" * 60, "1" * 4900, "\t1", "1\t", "1\n", "\n1", "-", ">", "0>1",
)

LINES = {
    "add_demand": "add_demand 9 0", "remove_demand": "remove_demand 0", "add_offer": "add_offer 7 0",
    "remove_offer": "remove_offer 1", "set_price": "set_price 0 9", "set_penalty": "set_penalty 2 0", "undo": "undo",
    "order": "order", "ring": "ring", "payments": "payments", "choice": "choice", "cost": "cost",
    "failure": "failure 0 1 2",
}


def console_for(data, made=Session):
    return Console(made(*data))


def ask(data, line):
    return console_for(data).execute(line)


def numbers(text, sign=","):
    return tuple([int(word) for word in text.split(sign)])


class ConsoleCase(Case):
    def assert_syntax_error(self, console, line):
        """The answer is so, it is in the history, and nothing of the session changes."""
        before = whole(console.session)
        self.assert_same(console.execute(line), "syntax error")
        self.assertEqual(whole(console.session), before)
        self.assertEqual(console.history()[-1], (line if isinstance(line, str) else None, "syntax error"))


class TestInterface(ConsoleCase):
    def test_names_and_parameters(self):
        self.assertEqual(Console.__module__, consoles.__name__)
        self.assertEqual(list(inspect.signature(Console).parameters), ["session"])
        self.assertEqual(list(inspect.signature(vars(Console)["execute"]).parameters)[1:], ["line"])
        self.assertEqual(list(inspect.signature(vars(Console)["history"]).parameters)[1:], [])

    def test_the_session_itself(self):
        for made in BOTH:
            session = made(*DATA)
            console = Console(session=session)
            self.assertEqual(console.execute(line="set_price 0 9"), "done")
            self.assert_same(session.prices(), (9, 4))
            session.set_price(0, 0)
            self.assertEqual(console.execute("cost"), "2")

    def test_two_consoles(self):
        session = Session(*DATA)
        one, other = Console(session), Console(session)
        self.assertEqual(one.execute("remove_offer 1"), "done")
        self.assertEqual(other.execute("remove_offer 1"), "error NoOffer")
        self.assertEqual(other.execute("undo"), "done")
        self.assertEqual(one.execute("undo"), "error NothingToUndo")
        self.assert_same(one.history(), (("remove_offer 1", "done"), ("undo", "error NothingToUndo")))
        self.assert_same(other.history(), (("remove_offer 1", "error NoOffer"), ("undo", "done")))
        self.assertEqual(len(session.log()), 4)

    def test_quick(self):
        for data in data_for(LARGE_TABLES, MAX_AMOUNT):
            for line in (*LINES.values(), "failure 9 8 7 6 5 4 3 2 1 0", "failure" + " 1" * 2400, "1" * 5000, " " * 5000):
                self.assert_quick(console_for(data).execute, line)


class TestOperations(ConsoleCase):
    def test_each(self):
        for line, operation in (
            ("add_demand 9 0", ("add_demand", 9, (0,))), ("add_demand 0", ("add_demand", 0, ())),
            ("add_demand 1000000000000 0 1", ("add_demand", MAX_AMOUNT, (0, 1))), ("remove_demand 2", ("remove_demand", 2)),
            ("add_offer 7 0 1 2", ("add_offer", 7, (0, 1, 2))), ("add_offer 7", ("add_offer", 7, ())),
            ("remove_offer 0", ("remove_offer", 0)), ("set_price 1 0", ("set_price", 1, 0)),
            ("set_penalty 0 1000000000000", ("set_penalty", 0, MAX_AMOUNT)),
        ):
            for made in BOTH:
                console, session = console_for(DATA, made), made(*DATA)
                self.assert_same(console.execute(line), "done")
                perform(session, operation)
                self.assert_same(whole(console.session), whole(session))
                self.assert_same(console.execute("undo"), "done")
                self.assert_same(state(console.session), DATA)

    def test_errors(self):
        for line, name in (
            ("add_demand 1000000000001 0", "NoAmount"), ("add_demand 9999999999999", "NoAmount"), ("add_demand 1 2", "NoChoice"),
            ("add_demand 1 1 0", "NoChoice"), ("add_demand 1 0 0", "NoChoice"), ("remove_demand 3", "NoDemand"),
            ("remove_demand 9999999999999", "NoDemand"), ("add_offer 1000000000001 0", "NoAmount"),
            ("add_offer 1 3", "NoDemands"), ("add_offer 1 2 1", "NoDemands"), ("remove_offer 2", "NoOffer"),
            ("set_price 2 1", "NoOffer"), ("set_price 2 9999999999999", "NoOffer"), ("set_price 0 1000000000001", "NoAmount"),
            ("set_penalty 3 1", "NoDemand"), ("set_penalty 0 9999999999999", "NoAmount"), ("undo", "NothingToUndo"),
        ):
            for made in BOTH:
                console = console_for(DATA, made)
                before = whole(console.session)
                self.assert_same(console.execute(line), f"error {name}")
                self.assertEqual(whole(console.session)[:3], before[:3])
                self.assert_same(console.session.log(), ((line.split(" ")[0], name),))

    def test_other_errors(self):
        self.assertEqual(ask(((1, ()), (), (4,)), "remove_demand 0"), "error LastDemand")
        full = ((MAX_DEMANDS, ((),) * MAX_OFFERS), (0,) * MAX_OFFERS, (0,) * MAX_DEMANDS)
        self.assertEqual(ask(full, "add_demand 1"), "error TooMany")
        self.assertEqual(ask(full, "add_offer 1"), "error TooMany")
        console = Console(Session(*DATA, limit=0))
        for line in LINES.values():
            if line.split(" ")[0] in ("add_demand", "remove_demand", "add_offer", "remove_offer", "set_price", "set_penalty"):
                self.assertEqual(console.execute(line), "error TooMany")
        guarded = console_for(DATA, GuardedSession)
        self.assertEqual(guarded.execute("add_offer 1 0 2"), "error Blocked")
        self.assertEqual(guarded.session.log(), (("add_offer", "Blocked"),))
        self.assertEqual(console_for(DATA).execute("add_offer 1 0 2"), "done")

    def test_a_long_sequence(self):
        console = console_for(DATA)
        for number in range(MAX_OPERATIONS):
            self.assertEqual(console.execute(f"set_price 0 {number}"), "done")
        self.assertEqual(console.execute("set_price 0 1"), "error TooMany")
        for number in range(MAX_OPERATIONS):
            self.assertEqual(console.execute("undo"), "done")
        self.assertEqual(console.execute("undo"), "error NothingToUndo")
        self.assertEqual(len(console.session.log()), LOG_SIZE)


class TestQuestions(ConsoleCase):
    def data(self):
        tables = list(plain.small_tables())[::7] + plain.random_tables(40, 4, 4) + plain.random_tables(20, 6, 5)
        return data_for(tables, 9) + list(edge_cases()) + [DATA, RING_DATA]

    def test_answers(self):
        for data in self.data():
            console = console_for(data)
            before = whole(console.session)
            orderable = console.session.certificate()[0] == "order"
            self.check_ring(console, data[0], orderable)
            self.assert_same(console.execute("cost"), str(plain.lowest_cost(*data)))
            if orderable:
                self.check_order(console, data)
            else:
                for line in ("order", "payments", "choice"):
                    self.assert_same(console.execute(line), "error NotOrderable")
            self.assertEqual(whole(console.session), before)

    def check_order(self, console, data):
        order = first_nested_order(data[0])
        self.assert_same(console.execute("order"), ">".join([str(demand) for demand in order]))
        self.assert_same(console.execute("payments"), " ".join([str(payment) for payment in console.session.payments()]))
        choice = console.session.choice()
        self.assert_same(console.execute("choice"), ",".join([str(offer) for offer in choice]) if choice else "-")

    def check_ring(self, console, table, orderable):
        answer = console.execute("ring")
        if orderable:
            self.assert_same(answer, "none")
            return
        demands, offers = answer.split(" ")
        ring = (numbers(demands), numbers(offers))
        self.assertIs(is_ring(table, ring), True)
        self.assert_same(answer, ",".join(map(str, ring[0])) + " " + ",".join(map(str, ring[1])))

    def test_words(self):
        self.assert_same(ask(DATA, "order"), "0>1>2")
        self.assert_same(ask(DATA, "payments"), "3 0 2")
        self.assert_same(ask(DATA, "choice"), "0")
        self.assert_same(ask(DATA, "cost"), "5")
        self.assert_same(ask(DATA, "ring"), "none")
        self.assert_same(ask((T, (0, 0), (5, 1, 2)), "choice"), "0,1")
        self.assert_same(ask((T, (9, 9), (1, 1, 1)), "choice"), "-")
        self.assert_same(ask(((1, ()), (), (4,)), "choice"), "-")
        self.assert_same(ask(((1, ()), (), (4,)), "order"), "0")
        self.assert_same(ask(((1, ()), (), (4,)), "payments"), "4")


class TestFailure(ConsoleCase):
    def test_every_order(self):
        tables = [T, R, *plain.random_tables(40, 4, 4), *EDGE_TABLES, *list(plain.small_tables())[::40]]
        for data in data_for(tables, 9):
            for order in itertools.permutations(range(data[0][0])):
                self.check(data, order)

    def test_largest(self):
        for data in data_for(LARGE_TABLES, 9):
            order = tuple(range(data[0][0]))
            for row in (order, order[::-1], order[5:] + order[:5]):
                self.check(data, row)

    def check(self, data, order):
        console = console_for(data)
        before = whole(console.session)
        answer = console.execute(" ".join(["failure", *[str(demand) for demand in order]]))
        self.assertEqual(whole(console.session), before)
        if is_nested_order(data[0], order):
            self.assert_same(answer, "none")
        else:
            rows = tuple([numbers(row) for row in answer.split(" ")])
            self.assertIs(is_failure(data[0], order, rows), True)
            self.assert_same(answer, " ".join([",".join([str(number) for number in row]) for row in rows]))

    def test_no_orders(self):
        for data in (DATA, RING_DATA, ((MAX_DEMANDS, ()), (), (1,) * MAX_DEMANDS)):
            for row in ("", " 0", " 0 1", " 0 1 1", " 1 2 3", " 0 1 3", " 0 1 2 3", " 0 1 9999999999999", " 0" * 2000):
                self.assert_same(ask(data, "failure" + row), "error NoOrder")
        self.assert_same(ask(((1, ()), (), (4,)), "failure"), "error NoOrder")
        self.assert_same(ask(((1, ()), (), (4,)), "failure 0"), "none")
        self.assert_same(ask(DATA, "failure 2 1 0"), "none")


class TestSyntax(ConsoleCase):
    def test_not_a_string(self):
        for made in BOTH:
            console = console_for(DATA, made)
            for value in [*ODD_VALUES, *NOT_ASCENDING, (), 0, 1, LONG, ["undo"], ("undo",), ("set_price", 0, 9), {"undo": 1}]:
                if not isinstance(value, str):
                    self.assert_syntax_error(console, value)

    def test_other_words(self):
        console = console_for(DATA)
        for line in ("", " ", "  ", "\n", "x", "0", "help", "table", "log", "clone", "apply_all", "session", "done", "none",
                     "syntax error", "execute undo", "history", "prices", "penalties", "certificate", "__init__", "undos",
                     "und", "Undo", "UNDO", "costs", "orders", "set_prices 0 9", "set price 0 9", "setprice 0 9", "add 1 0",
                     "remove 0", "~", "=", "cost;cost", "cost,order", "cost order", "undo undo", "order\ncost"):
            self.assert_syntax_error(console, line)

    def test_spaces_and_line_ends(self):
        for line in LINES.values():
            console = console_for(DATA)
            for other in (" " + line, line + " ", line + "\n", "\n" + line, line + "\t", line + "  ", "\t" + line,
                          line.upper(), line.title(), line + ".", line + ",", line + ";", line + " x", line + " -1"):
                self.assert_syntax_error(console, other)
            if " " in line:
                for other in (line.replace(" ", "  "), line.replace(" ", "\t"), line.replace(" ", ","), line.replace(" ", ""),
                              line.replace(" ", "\n"), line.replace(" ", ", ")):
                    self.assert_syntax_error(console, other)

    def test_too_few_and_too_many_numbers(self):
        console = console_for(DATA)
        for line in ("add_demand", "add_offer", "remove_demand", "remove_offer", "remove_demand 0 1", "remove_offer 0 1",
                     "set_price", "set_price 0", "set_price 0 1 2", "set_penalty", "set_penalty 0", "set_penalty 0 1 2",
                     "undo 1", "order 1", "ring 1", "payments 1", "choice 1", "cost 1", "undo 0", "cost 0 0"):
            self.assert_syntax_error(console, line)

    def test_words_that_are_no_numbers(self):
        console = console_for(DATA)
        for word in NOT_NUMBERS:
            for line in (f"add_demand {word}", f"add_demand {word} 0", f"add_demand 1 {word}", f"add_demand 1 0 {word}",
                         f"remove_demand {word}", f"add_offer {word} 0", f"add_offer 1 {word}", f"remove_offer {word}",
                         f"set_price {word} 1", f"set_price 0 {word}", f"set_penalty {word} 1", f"set_penalty 0 {word}",
                         f"failure {word}", f"failure 0 1 {word}", f"failure {word} 1 2", f"cost {word}", f"undo {word}"):
                self.assert_syntax_error(console, line)

    def test_the_longest_numbers(self):
        self.assertEqual(ask(DATA, "set_price 0 9999999999999"), "error NoAmount")
        self.assertEqual(ask(DATA, "set_price 9999999999999 0"), "error NoOffer")
        self.assertEqual(ask(DATA, "set_price 0 10000000000000"), "syntax error")
        self.assertEqual(ask(DATA, "set_price 0 1000000000000"), "done")

    def test_exactly_the_lines_without_a_valid_form(self):
        source = random.Random(37)
        parts = [*LINES, *[str(number) for number in (0, 1, 2, 9, 10 ** 12, 10 ** 13)], "", "x", "00", "-1", "\n"]
        valid = 0
        for number in range(6000):
            words = [source.choice(list(LINES))] + source.choices(parts[13:17] if number % 3 else parts, k=source.randrange(4))
            line = source.choice([" ", " ", " ", "  ", ","]).join(words)
            console = console_for(DATA)
            if VALID.fullmatch(line):
                valid += 1
                self.assertNotEqual(console.execute(line), "syntax error", line)
            else:
                self.assert_syntax_error(console, line)
        self.assertGreater(valid, 500)


class TestHistory(ConsoleCase):
    def test_the_last_pairs(self):
        console = console_for(DATA)
        self.assert_same(console.history(), ())
        expected = []
        for number in range(50):
            line = ("cost", "undo", f"set_price 0 {number}", None, "x", [number], 7)[number % 7]
            answer = console.execute(line)
            expected.append((line if isinstance(line, str) else None, answer))
            self.assert_same(console.history(), tuple(expected[-20:]))
        self.assertEqual(len(console.history()), 20)

    def test_what_it_was(self):
        console = console_for(DATA)
        console.execute("cost")
        first = console.history()
        console.execute("set_price 0 0")
        self.assert_same(first, (("cost", "5"),))
        self.assert_same(console.history(), (("cost", "5"), ("set_price 0 0", "done")))

    def test_the_session_does_not_write_it(self):
        session = Session(*DATA)
        console = Console(session)
        session.set_price(0, 1)
        session.undo()
        self.assert_same(console.history(), ())

    def test_asking_for_it_changes_nothing(self):
        console = console_for(DATA)
        console.execute("undo")
        before = whole(console.session)
        self.assertEqual(console.history(), console.history())
        self.assertEqual(whole(console.session), before)

    def test_names_of_errors(self):
        console = console_for(DATA)
        for operation, name in WRONG:
            if all([isinstance(part, int) and 0 <= part and part is not True for part in operation[1:]]):
                line = " ".join([str(part) for part in operation])
                self.assertEqual(console.execute(line), f"error {name}")
        self.assertTrue(console.history())

    def test_rings(self):
        for data in data_for(RING_TABLES, 9):
            console = console_for(data)
            answers = [console.execute(line) for line in ("order", "payments", "choice")]
            self.assert_same(answers, ["error NotOrderable"] * 3)
            self.assert_same([line for line, answer in console.history()], ["order", "payments", "choice"])


if __name__ == "__main__":
    unittest.main()
