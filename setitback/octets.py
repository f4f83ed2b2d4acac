"""Octets that are passed, and how one after another is read from them."""

from setitback.anyvalue import is_below, is_number, is_sequence
from setitback.errors import BadOctets, Broken, Refused


def check_octets(value):
    """Any value as octets, a tuple; BadOctets if it is none."""
    if not is_sequence(value):
        raise BadOctets(-1)
    for at, item in enumerate(value):
        if not is_below(item, 256):
            raise BadOctets(at)
    return tuple(value)


def check_place(at):
    """Any value as a place among octets, perhaps behind them all; Refused if it is none."""
    if not is_number(at):
        raise Refused(at)
    return at


def octet_at(octets, at, low, high):
    """The octet at a place where only those from low to high can be gone on with; Broken otherwise."""
    if at >= len(octets):
        raise Broken(len(octets))
    if not low <= octets[at] <= high:
        raise Broken(at)
    return octets[at]
