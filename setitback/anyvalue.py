"""Tests of any value, which may be of any kind. No bool counts as an integer."""


def is_integer(value):
    return isinstance(value, int) and not isinstance(value, bool)


def is_number(value):
    return is_integer(value) and value >= 0


def is_within(value, low, high):
    """Whether it is an integer from low to high."""
    return is_integer(value) and low <= value <= high


def is_below(value, limit):
    """Whether it is a number below the limit."""
    return is_number(value) and value < limit


def is_sequence(value):
    return isinstance(value, (list, tuple))


def is_row(value, many):
    """Whether it is a sequence of so many things."""
    return is_sequence(value) and len(value) == many


def is_row_below(value, limits):
    """Whether it is a row with a number below each of the limits, in their order."""
    return is_row(value, len(limits)) and all([is_below(part, limit) for part, limit in zip(value, limits)])


def is_word(value, word):
    return isinstance(value, str) and value == word


def is_side(value):
    return is_below(value, 2)


def is_lot(value, many):
    """Whether it is an ascending sequence of numbers below many, at least one."""
    if not is_sequence(value) or len(value) == 0 or not all([is_below(part, many) for part in value]):
        return False
    return all([value[at - 1] < value[at] for at in range(1, len(value))])
