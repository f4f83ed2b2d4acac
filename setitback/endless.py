"""What endless machines are passed: situations, which are all numbers, and numbers of settings or layers."""

from setitback.anyvalue import is_number
from setitback.errors import NoSituation, Refused


def check_number(value):
    """Any value as a number; Refused if it is none."""
    if not is_number(value):
        raise Refused(value)
    return value


def check_from_one(value):
    """Any value as an integer from 1 on; Refused if it is none."""
    if not is_number(value) or value == 0:
        raise Refused(value)
    return value


def check_endless(situation):
    """Any value as a situation of an endless machine; NoSituation if it is none."""
    if not is_number(situation):
        raise NoSituation(situation)
    return situation
