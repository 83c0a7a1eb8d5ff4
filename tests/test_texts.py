"""Points 77 to 81: texts."""

import itertools
import random
import re
import unittest

import plain
from cases import Case
from payorder import texts
from payorder.errors import BadText
from payorder.limits import MAX_AMOUNT, MAX_DEMANDS, MAX_OFFERS
from payorder.texts import format_data, format_order, parse_data, parse_order
from plain import ALL, EDGE_TABLES, LARGE_TABLES, data_for, edge_cases
from samples import LONG, NOT_ASCENDING, ODD_VALUES, R, T, outcome

DATA = (T, (3, 4), (5, 1, 2))
TEXT = "demand 5\ndemand 1\ndemand 2\noffer 3 0 1\noffer 4 1 2\n"

NOT_STRINGS = [value for value in ODD_VALUES + NOT_ASCENDING + ((), 0, 1, -1, LONG) if not isinstance(value, str)]

# None of these is the decimal form of an integer that texts contain.
NOT_NUMBERS = (
    "", "00", "01", "007", "-1", "-0", "+1", "+0", "1.0", "1e3", "a", "0x1", "1_0", "1,0", "x1", "1x", "None", "True",
    "10000000000000", "99999999999999", "0" * 13, "0" * 14, "1" * 60, "1" * 4900, "\t1", "1\t", "(1)", "'1'", ">", "*",
    "\u0663", "\u00b2",
)
NOT_AMOUNTS = NOT_NUMBERS + (str(MAX_AMOUNT + 1), "9" * 13, "2" + "0" * 12)


def plain_text(table, prices, penalties):
    """The text, line by line, by the words of the document."""
    text = ""
    for penalty in penalties:
        text = text + "demand " + str(penalty) + "\n"
    for price, offer in zip(prices, table[1]):
        text = text + "offer " + str(price)
        for demand in offer:
            text = text + " " + str(demand)
        text = text + "\n"
    return text


def changed_lines(line):
    """The line with a part that is wrong in every text: another word, other spaces, other ends."""
    word, rest = line.split(" ", 1)
    found = [word, word + " ", "", " ", rest, " " + line, line + " ", line.replace(" ", "  "), line.replace(" ", "\t")]
    found.extend([word.upper() + " " + rest, word.title() + " " + rest, word + "s " + rest, word[:-1] + " " + rest])
    found.extend([line.replace(" ", ""), line + ",", line + ";", "#" + line, line + " x", line + "\t", word + ": " + rest])
    return found


def first_wrong_line(text):
    """The index of the first line that is not correct, by the words of the document, or None."""
    *lines, behind = text.split("\n")
    demands = offers = 0
    for at, line in enumerate(lines):
        if re.fullmatch("(demand|offer)( (0|[1-9][0-9]{0,12}))+", line) is None:
            return at
        first, *others = [int(word) for word in line.split(" ")[1:]]
        if line.startswith("demand"):
            demands += 1
            right = offers == 0 and not others and demands <= MAX_DEMANDS
        else:
            offers += 1
            right = others == sorted(set(others)) and all(demand < demands for demand in others) and demands > 0
        if not right or first > MAX_AMOUNT or offers > MAX_OFFERS:
            return at
    return len(lines) if behind or demands == 0 else None


class TextCase(Case):
    def assert_bad(self, line, call, text):
        self.assert_raises(BadText, {"line": line}, call, text)


class TestInterface(Case):
    def test_names_and_parameters(self):
        self.assert_interface(texts, {
            "format_data": ["table", "prices", "penalties"],
            "parse_data": ["value"],
            "format_order": ["order"],
            "parse_order": ["value"],
        })

    def test_arguments_stay(self):
        for table, prices, penalties in data_for((T, R) + EDGE_TABLES + LARGE_TABLES, MAX_AMOUNT):
            self.assert_leaves(format_data, table, prices, penalties)
            self.assert_leaves(parse_data, format_data(table, prices, penalties))
        for value in (*ODD_VALUES, TEXT, [TEXT], "2>0>1"):
            self.assert_leaves(parse_data, value)
            self.assert_leaves(parse_order, value)
        self.assert_leaves(format_order, (2, 0, 1))

    def test_long_texts_are_quick(self):
        for value in ("demand 1\n" * 500, "\n" * 5000, "offer" + " 1" * 2000, "0>" * 2500, "1" * 5000, " " * 5000):
            self.assert_quick(parse_data, value)
            self.assert_quick(parse_order, value)
            self.assert_quick(parse_data, "demand 1\n" + value)

    def test_somewhat_beyond_the_limits(self):
        many = MAX_DEMANDS + 1
        text = format_data((many, ((10,),) * many), (MAX_AMOUNT + 1,) * many, (LONG,) * many)
        self.assertEqual(text, f"demand {LONG}\n" * many + f"offer {MAX_AMOUNT + 1} 10\n" * many)
        self.assertEqual(format_order(tuple(range(many))), "0>1>2>3>4>5>6>7>8>9>10")


class TestFormatData(Case):
    def test_by_definition(self):
        tables = list(itertools.chain(plain.small_tables(), EDGE_TABLES, LARGE_TABLES))
        for table, prices, penalties in data_for(tables, MAX_AMOUNT) + list(edge_cases()):
            self.assert_same(format_data(table, prices, penalties), plain_text(table, prices, penalties))

    def test_ordinary(self):
        self.assert_same(format_data((1, ()), (), (0,)), "demand 0\n")
        self.assert_same(format_data((1, ((),)), (0,), (MAX_AMOUNT,)), "demand 1000000000000\noffer 0\n")


class TestParseData(TextCase):
    def test_there_and_back(self):
        tables = list(itertools.chain(plain.small_tables(), EDGE_TABLES, LARGE_TABLES, plain.random_tables(50, 7, 6)))
        for data in data_for(tables, 9) + data_for(tables, MAX_AMOUNT) + list(edge_cases()):
            self.assert_same(parse_data(format_data(*data)), data)
            self.assert_same(parse_data(plain_text(*data)), data)

    def test_not_a_string(self):
        for value in NOT_STRINGS:
            self.assert_bad(None, parse_data, value)
        self.assert_bad(None, parse_data, [TEXT])
        self.assert_bad(None, parse_data, (TEXT,))

    def test_no_demand(self):
        for text in ("", "\n", "\n\n", "offer 4\n", "offer 4 0\n", " ", "demand", "demand 7", "demand\n"):
            self.assert_bad(0, parse_data, text)

    def test_each_line_changed(self):
        lines = TEXT.split("\n")[:-1]
        for at, line in enumerate(lines):
            for other in changed_lines(line):
                text = "".join([row + "\n" for row in lines[:at] + [other] + lines[at + 1:]])
                self.assert_bad(at, parse_data, text)
                self.assert_bad(at, parse_data, "".join([row + "\n" for row in lines[:at]]) + other + "\n")

    def test_text_behind_the_last_line_end(self):
        lines = TEXT.split("\n")[:-1]
        for at in range(len(lines)):
            self.assert_bad(at, parse_data, "\n".join(lines[:at + 1]))
        for behind in (" ", "x", "offer 1", "offer 1 0", "demand 1", "#", "\t"):
            self.assert_bad(len(lines), parse_data, TEXT + behind)
        self.assert_bad(len(lines), parse_data, TEXT + "\n")

    def test_the_first_wrong_line_counts(self):
        self.assert_bad(1, parse_data, "demand 5\ndemand x\noffer y")
        self.assert_bad(0, parse_data, "demand x\ndemand x\n")
        self.assert_bad(1, parse_data, "demand 5\noffer 1 1\ndemand 5\n")
        self.assert_bad(2, parse_data, "demand 5\noffer 1 0\noffer")

    def test_penalties(self):
        for word in ("0", "1", "10", "999999999999", "1000000000000"):
            self.assert_same(parse_data(f"demand {word}\n"), ((1, ()), (), (int(word),)))
        for word in NOT_AMOUNTS:
            self.assert_bad(0, parse_data, f"demand {word}\n")
            self.assert_bad(1, parse_data, f"demand 1\ndemand {word}\ndemand 1\n")
        self.assert_bad(0, parse_data, "demand 1 1\n")

    def test_prices(self):
        for word in ("0", "1", "10", "999999999999", "1000000000000"):
            self.assert_same(parse_data(f"demand 1\noffer {word}\n"), ((1, ((),)), (int(word),), (1,)))
        for word in NOT_AMOUNTS:
            self.assert_bad(1, parse_data, f"demand 1\noffer {word}\n")
            self.assert_bad(1, parse_data, f"demand 1\noffer {word} 0\n")
            self.assert_bad(2, parse_data, f"demand 1\noffer 1\noffer {word}\n")

    def test_covered_demands(self):
        for demands in range(1, MAX_DEMANDS + 1):
            head = "demand 1\n" * demands
            for demand in range(demands + 2):
                text = head + f"offer 5 {demand}\n"
                if demand < demands:
                    self.assert_same(parse_data(text), ((demands, ((demand,),)), (5,), (1,) * demands))
                else:
                    self.assert_bad(demands, parse_data, text)
        for word in NOT_NUMBERS + ("1000000000000", "2"):
            self.assert_bad(2, parse_data, f"demand 1\ndemand 1\noffer 5 {word}\n")
            self.assert_bad(2, parse_data, f"demand 1\ndemand 1\noffer 5 0 {word}\n")
            self.assert_bad(2, parse_data, f"demand 1\ndemand 1\noffer 5 {word} 1\n")

    def test_demands_that_do_not_ascend(self):
        for many in (2, 3):
            for row in itertools.product(range(4), repeat=many):
                text = "demand 1\n" * 4 + "offer 5 " + " ".join([str(demand) for demand in row]) + "\n"
                if list(row) == sorted(set(row)):
                    self.assert_same(parse_data(text), ((4, (row,)), (5,), (1, 1, 1, 1)))
                else:
                    self.assert_bad(4, parse_data, text)

    def test_too_many_demands(self):
        self.assert_same(parse_data("demand 1\n" * MAX_DEMANDS), ((MAX_DEMANDS, ()), (), (1,) * MAX_DEMANDS))
        for more in (1, 2, 20):
            self.assert_bad(MAX_DEMANDS, parse_data, "demand 1\n" * (MAX_DEMANDS + more))

    def test_too_many_offers(self):
        for demands in (1, 3, MAX_DEMANDS):
            head = "demand 1\n" * demands
            expected = ((demands, ((0,),) * MAX_OFFERS), (2,) * MAX_OFFERS, (1,) * demands)
            self.assert_same(parse_data(head + "offer 2 0\n" * MAX_OFFERS), expected)
            for more in (1, 2, 20):
                self.assert_bad(demands + MAX_OFFERS, parse_data, head + "offer 2 0\n" * (MAX_OFFERS + more))

    def test_demands_behind_offers(self):
        self.assert_bad(2, parse_data, "demand 1\noffer 2\ndemand 1\n")
        self.assert_bad(4, parse_data, "demand 1\ndemand 1\noffer 2\noffer 2 0\ndemand 1\noffer 1\n")
        self.assert_bad(0, parse_data, "offer 2\ndemand 1\n")

    def test_every_text_with_a_character_changed(self):
        """A text is either refused or it is the text of what it is parsed to."""
        source = random.Random(17)
        for table, prices, penalties in data_for([T, R, *EDGE_TABLES], 12):
            text = format_data(table, prices, penalties)
            for number in range(150):
                at = source.randrange(len(text) + 1)
                sign = source.choice(["", " ", "0", "1", "2", "9", "\n", "d", "offer 1\n", "demand 3\n", "-", text[at:at + 3]])
                self.check(text[:at] + sign + text[at + source.randrange(3):])

    def check(self, text):
        found = outcome(parse_data, text)
        if found[0] == "returned":
            self.assertEqual(format_data(*found[1]), text)
            self.assertIsNone(first_wrong_line(text))
        else:
            self.assertIs(found[1], BadText)
            self.assert_same(found[2], {"line": first_wrong_line(text)})


class TestFormatOrder(Case):
    def test_orders(self):
        for many in range(1, 6):
            for order in itertools.permutations(range(many)):
                self.assert_same(format_order(order), repr(order).strip("(),").replace(", ", ">"))
        self.assert_same(format_order(ALL[::-1]), "9>8>7>6>5>4>3>2>1>0")
        self.assert_same(format_order((0,)), "0")


class TestParseOrder(TextCase):
    def test_there_and_back(self):
        for many in range(1, 6):
            for order in itertools.permutations(range(many)):
                self.assert_same(parse_order(format_order(order)), order)

    def test_lengths(self):
        self.assert_bad(0, parse_order, "")
        self.assert_same(parse_order("0"), (0,))
        self.assert_same(parse_order("3>1>4>0>5>9>2>6>8>7"), (3, 1, 4, 0, 5, 9, 2, 6, 8, 7))
        self.assert_bad(0, parse_order, "0>1>2>3>4>5>6>7>8>9>10")
        self.assert_bad(0, parse_order, "10>9>8>7>6>5>4>3>2>1>0")

    def test_not_a_string(self):
        for value in NOT_STRINGS:
            self.assert_bad(None, parse_order, value)
        self.assert_bad(None, parse_order, (2, 0, 1))
        self.assert_bad(None, parse_order, ["2>0>1"])

    def test_no_orders(self):
        for many in (1, 2, 3):
            for row in itertools.product(range(4), repeat=many):
                text = ">".join([str(demand) for demand in row])
                if sorted(row) == list(range(many)):
                    self.assert_same(parse_order(text), row)
                else:
                    self.assert_bad(0, parse_order, text)

    def test_wrong_texts(self):
        wrong = [">", "0>", ">0", "0>>1", "0 > 1", "0> 1", " 0", "0 ", "0\n", "\n0", "0>1\n", "0,1", "0 1", "01", "0<1",
                 "0>1>", ">0>1", "(0, 1)", "0-1", "0>1>2>", "a", "a>b", "0>a", "0>1>1", "1>2", "2>0>1>4", "0>\n1", "0=>1"]
        for text in wrong:
            self.assert_bad(0, parse_order, text)
        for word in NOT_NUMBERS:
            for text in (word, f"0>{word}", f"{word}>0", f"0>{word}>2"):
                self.assert_bad(0, parse_order, text)
        for text in [value for value in ODD_VALUES if isinstance(value, str) and value != "0"]:
            self.assert_bad(0, parse_order, text)


if __name__ == "__main__":
    unittest.main()
