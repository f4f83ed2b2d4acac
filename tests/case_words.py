"""The three cases of a bond and a start by their words, and worlds of each, for several tests."""

from functools import lru_cache
from math import lcm

from helpers import best, fitting, full, is_even, lots, small_bonds, some_bonds, uneven_bonds
from lossless_words import crosses

CORNER = (2, 2, ((0, 0), (0, 1), (1, 1)))
SQUARE = (2, 2, ((0, 0), (1, 1)))
DESK = (3, 2, ((0, 0), (1, 0), (2, 1)))
# Each side has one filling that fits five: of all bonds the one with the greatest p q.
STAR = (6, 6, tuple(sorted({(s, 0) for s in range(5)} | {(5, t) for t in range(1, 6)})))


def tight_crossed(bond, start):
    """The tight lots of side 0 that a start crosses."""
    return [lot for lot in lots(bond[0]) if len(lot) * bond[1] == len(fitting(bond, 0, lot)) * bond[0]
            and start[1] in fitting(bond, 0, lot) and start[0] not in lot]


def greatest_lot(bond, side):
    """The fillings that are in some lot of the greatest quotient."""
    having = [lot for lot in lots(bond[side]) if len(lot) == best(bond, side) * len(fitting(bond, side, lot))]
    return tuple(sorted({filling for lot in having for filling in lot}))


@lru_cache(None)
def case_by_words(bond, start):
    if not is_even(bond):
        worth = best(bond, 0) * best(bond, 1)
        return "grows", (worth.numerator, worth.denominator), greatest_lot(bond, 0), greatest_lot(bond, 1)
    if crosses(bond, start):
        crossed = tight_crossed(bond, start)
        return "steps", tuple(filling for filling in crossed[0] if all(filling in lot for lot in crossed))
    return "bounded", lcm(bond[0], bond[1])


@lru_cache(None)
def all_cases():
    """(Bond, start) of many bonds, of all three cases."""
    bonds = list(small_bonds(3)) + some_bonds(70, 80) + [bond for bond in some_bonds(71, 500, 5) if is_even(bond)]
    bonds += uneven_bonds(72, 20) + [CORNER, SQUARE, DESK, STAR, full(1, 1), full(6, 5), full(1, 6), full(6, 6)]
    return tuple((bond, start) for bond in dict.fromkeys(bonds) for start in bond[2])


@lru_cache(None)
def some_cases(many):
    """About so many (bond, start) of each of the three cases."""
    found = []
    for word in ("bounded", "steps", "grows"):
        having = [(bond, start) for bond, start in all_cases() if case_by_words(bond, start)[0] == word]
        found += having[::max(1, len(having) // many)]
    return tuple(found)
