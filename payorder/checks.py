"""Checks of plain values that several modules share."""

from payorder.limits import MAX_AMOUNT


def is_integer(value):
    """Return whether value is an integer."""
    # A truth value is an int for Python, but it is no integer here.
    return isinstance(value, int) and not isinstance(value, bool)


def is_number_below(value, count):
    """Return whether value is an integer from 0 to count - 1."""
    return is_integer(value) and 0 <= value < count


def is_tuple_of(value, length):
    """Return whether value is a tuple of that length."""
    return isinstance(value, tuple) and len(value) == length


def is_ascending_below(value, count):
    """Return whether value is an ascending, possibly empty tuple of integers from 0 to count - 1."""
    if not isinstance(value, tuple):
        return False
    last = -1
    for number in value:
        if not is_number_below(number, count) or number <= last:
            return False
        last = number
    return True


def is_distinct_below(value, count):
    """Return whether value is a tuple of integers from 0 to count - 1 without duplicates."""
    if not isinstance(value, tuple):
        return False
    # The members are checked first, because not every value can be a member of a set.
    if not all([is_number_below(number, count) for number in value]):
        return False
    return len(set(value)) == len(value)


def is_order(value, demands):
    """Return whether value is a tuple that contains each integer from 0 to demands - 1 once."""
    return is_distinct_below(value, demands) and len(value) == demands


def is_amount(value):
    """Return whether value is an amount."""
    return is_number_below(value, MAX_AMOUNT + 1)


def are_amounts(value, count):
    """Return whether value is a tuple of that many amounts."""
    return is_tuple_of(value, count) and all([is_amount(amount) for amount in value])
