"""Tests of any value, which may be of any kind. No bool counts as an integer."""


def is_number(value):
    return isinstance(value, int) and not isinstance(value, bool) and value >= 0


def is_whole(value):
    """Whether it is an integer."""
    return isinstance(value, int) and not isinstance(value, bool)


def is_within(value, low, high):
    """Whether it is an integer from low to high."""
    return isinstance(value, int) and not isinstance(value, bool) and low <= value <= high


def is_below(value, limit):
    """Whether it is a number below the limit."""
    return isinstance(value, int) and not isinstance(value, bool) and 0 <= value < limit


def is_sequence(value):
    return isinstance(value, tuple) or isinstance(value, list)


def is_row(value, many):
    """Whether it is a sequence of so many things."""
    return (isinstance(value, tuple) or isinstance(value, list)) and len(value) == many


def are_numbers(value, many):
    """Whether it is a sequence of so many numbers."""
    return is_row(value, many) and all([is_number(part) for part in value])


def are_within(value, low, high):
    """Whether it is a sequence of integers from low to high, perhaps of none."""
    return is_sequence(value) and all([is_within(part, low, high) for part in value])


def is_row_below(value, limits):
    """Whether it is a row with a number below each of the limits, in their order."""
    return is_row(value, len(limits)) and all([is_below(part, limit) for part, limit in zip(value, limits)])


def is_pair_below(value, limit, other):
    """Whether it is a pair of a number below the one limit and one below the other."""
    return is_row(value, 2) and is_below(value[0], limit) and is_below(value[1], other)


def are_rows(values, many):
    """Whether each item of a sequence is a sequence of so many things."""
    # One comparison for all: machines are looked at whenever they are passed, with up to 400 situations.
    return [len(row) for row in values if isinstance(row, tuple) or isinstance(row, list)] == [many] * len(values)


def are_below(values, limit):
    """Whether each item of a list, which has one at least, is a number below the limit."""
    if not all([isinstance(value, int) and value is not True and value is not False for value in values]):
        return False
    return min(values) >= 0 and max(values) < limit


def is_word(value, word):
    return isinstance(value, str) and value == word


def is_side(value):
    return is_below(value, 2)


def is_lot(value, many):
    """Whether it is an ascending sequence of numbers below many, at least one."""
    if not is_sequence(value) or len(value) == 0 or not are_below(value, many):
        return False
    return all([value[at - 1] < value[at] for at in range(1, len(value))])
