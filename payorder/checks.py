"""Checks of plain values that several modules share."""


def is_integer(value):
    """Return whether value is an integer."""
    # A truth value is an int for Python, but it is no integer here.
    return isinstance(value, int) and not isinstance(value, bool)


def is_number_below(value, count):
    """Return whether value is an integer from 0 to count - 1."""
    return is_integer(value) and 0 <= value < count


def is_ascending_below(value, count):
    """Return whether value is an ascending, possibly empty tuple of integers from 0 to count - 1."""
    if not isinstance(value, tuple):
        return False
    last = -1
    for number in value:
        if not is_number_below(number, count) or number <= last:
            return False
        last = number
    return True
