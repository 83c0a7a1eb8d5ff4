"""Texts of tables with prices and penalties, and of orders."""

from payorder.checks import is_amount, is_ascending_below, is_order
from payorder.errors import BadText
from payorder.limits import MAX_DEMANDS, MAX_OFFERS

MAX_DIGITS = 13


def format_data(table, prices, penalties):
    """Return the text of a table with prices and penalties."""
    lines = [f"demand {penalty}\n" for penalty in penalties]
    for price, offer in zip(prices, table[1]):
        lines.append("offer " + join_numbers(" ", (price, *offer)) + "\n")
    return "".join(lines)


def join_numbers(sign, numbers):
    """Return the numbers in decimal, joined by the sign."""
    return sign.join([str(number) for number in numbers])


def parse_data(value):
    """Return (table, prices, penalties) with that text."""
    if not isinstance(value, str):
        raise BadText(None)
    parts = value.split("\n")
    lines = parts[:-1]
    penalties = leading_penalties(lines)
    if len(penalties) == 0:
        raise BadText(0)
    rows = []
    for index in range(len(penalties), len(lines)):
        row = parse_offer(lines[index], len(penalties))
        if row is None or len(rows) >= MAX_OFFERS:
            raise BadText(index)
        rows.append(row)
    if parts[-1] != "":
        raise BadText(len(lines))
    table = (len(penalties), tuple([row[1:] for row in rows]))
    return table, tuple([row[0] for row in rows]), tuple(penalties)


def leading_penalties(lines):
    """Return the list of the penalties of the first lines, as far as they are lines of demands."""
    penalties = []
    for line in lines[:MAX_DEMANDS]:
        numbers = numbers_behind("demand", line)
        if numbers is None or len(numbers) != 1 or not is_amount(numbers[0]):
            break
        penalties.append(numbers[0])
    return penalties


def parse_offer(line, demands):
    """Return the tuple of the price and the covered demands of the line of an offer, or None if it is not correct."""
    numbers = numbers_behind("offer", line)
    if numbers is None or len(numbers) == 0 or not is_amount(numbers[0]):
        return None
    return numbers if is_ascending_below(numbers[1:], demands) else None


def numbers_behind(word, line):
    """Return the tuple of the numbers behind the word, or None if the line is anything else."""
    words = line.split(" ")
    numbers = tuple([parse_number(part) for part in words[1:]])
    return numbers if words[0] == word and None not in numbers else None


def parse_number(word):
    """Return the integer that the word is in decimal, or None if it is none without a sign and leading zeros."""
    if not word.isascii() or not word.isdigit() or len(word) > MAX_DIGITS:
        return None
    if word[0] == "0" and word != "0":
        return None
    return int(word)


def format_order(order):
    """Return the text of an order."""
    return join_numbers(">", order)


def parse_order(value):
    """Return the order with that text."""
    if not isinstance(value, str):
        raise BadText(None)
    order = tuple([parse_number(word) for word in value.split(">")])
    if len(order) > MAX_DEMANDS or not is_order(order, len(order)):
        raise BadText(0)
    return order
