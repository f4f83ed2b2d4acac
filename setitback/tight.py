"""Tight lots of even bonds, their blocks, the pairs that are carried, and what a start crosses."""

from setitback.anyvalue import is_below
from setitback.bonds import check_bond, check_lot, check_side
from setitback.errors import NoFilling, Refused
from setitback.lots import (
    common_of, greatest_of, is_pair_of, lot_with, partners_of, pieces_of, product_of_greatest, sized_lots,
)


def is_tight_of(bond, side, lot):
    """Whether a lot has just as great a share of its side as its partners of theirs."""
    return len(lot) * bond[1 - side] == len(partners_of(bond, side, lot)) * bond[side]


def is_tight(bond, side, lot):
    """Whether a lot of any bond is tight."""
    bond = check_bond(bond)
    return is_tight_of(bond, side, check_lot(bond, side, lot))


def check_even(value):
    """Any value as an even bond, of tuples; BadBond if it is no bond, Refused if it is not even."""
    bond = check_bond(value)
    if product_of_greatest(bond) != (1, 1):
        raise Refused(value)
    return bond


def check_start(bond, start):
    """Any value as a start of a bond that was looked at, a tuple; Refused if it is none."""
    if not is_pair_of(bond, start):
        raise Refused(start)
    return tuple(start)


def tight_sized(bond, side):
    """(Lot, partners) of all tight lots of a side, as the bits of numbers."""
    lots = sized_lots(bond, side)
    return [(lot, reached) for lot, reached, many, others in lots if many * bond[1 - side] == others * bond[side]]


def tight_of(bond, side):
    """All tight lots of a side: those of fewer fillings first, then ascending."""
    return sorted([lot_with(lot) for lot, _ in tight_sized(bond, side)], key=lambda lot: (len(lot), lot))


def tight_lots(bond, side):
    """All tight lots of a side of an even bond: those of fewer fillings first, then ascending."""
    bond = check_even(bond)
    return tuple(tight_of(bond, check_side(side)))


def least_tight(bond, side, filling):
    """The tight lot with a filling that lies in all others with it."""
    bond = check_even(bond)
    side = check_side(side)
    if not is_below(filling, bond[side]):
        raise NoFilling(filling)
    return common_of([lot for lot in tight_of(bond, side) if filling in lot])


def bars(bond, side, lot, pair):
    """Whether a lot of this side has the pair's other filling among its partners, and not its filling here."""
    return pair[side] not in lot and pair[1 - side] in partners_of(bond, side, lot)


def greatest_lots(bond, side):
    """(Lot, partners) of all lots of this side that have its greatest quotient, as the bits of numbers."""
    top, bottom = greatest_of(bond, side)[0]
    return [(lot, reached) for lot, reached, many, others in sized_lots(bond, side) if many * bottom == others * top]


def barring_lots(lots, filling, other):
    """Of lots with their partners, as the bits of numbers, those that do not have a filling but the other one there."""
    return [lot for lot, reached in lots if reached >> other & 1 and not lot >> filling & 1]


def carried_of(bond):
    """The carried pairs of a bond that was looked at."""
    lots = [greatest_lots(bond, side) for side in (0, 1)]
    return tuple([(s, t) for s, t in bond[2] if not barring_lots(lots[0], s, t) and not barring_lots(lots[1], t, s)])


def carried(bond):
    """Ascending all pairs that no lot of a greatest quotient bars."""
    return carried_of(check_bond(bond))


def stands_next(bond, block, told):
    """Whether what fits the block's lot of side 0 lies in it and in the blocks that were told."""
    reached = [other for _, others in told + [block] for other in others]
    return all([partner in reached for partner in partners_of(bond, 0, block[0])])


def blocks(bond):
    """The blocks, each behind those in which its partners lie: (a lot of side 0, a lot of side 1)."""
    bond = check_even(bond)
    left = list(pieces_of((bond[0], bond[1], carried_of(bond))))
    told = []
    while left:
        # Pieces are ascending, so the first that can stand next has the least filling.
        following = [block for block in left if stands_next(bond, block, told)][0]
        told.append(following)
        left.remove(following)
    return tuple(told)


def crossed_by(bond, pair):
    """Of the tight lots that a start crosses the one that lies in all others, or None; bond and start looked at."""
    crossed = barring_lots(tight_sized(bond, 0), pair[0], pair[1])
    return common_of([lot_with(lot) for lot in crossed]) if crossed else None


def is_bounded(bond, pair):
    """Whether a bond is even and a start of it crosses no tight lot, both looked at."""
    return product_of_greatest(bond) == (1, 1) and crossed_by(bond, pair) is None


def is_crossing(bond, pair):
    """Whether a bond is even and a start of it crosses a tight lot, both looked at."""
    return product_of_greatest(bond) == (1, 1) and crossed_by(bond, pair) is not None


def crossing(bond, start):
    """Of the tight lots of side 0 that a start crosses the one that lies in all others; None if it crosses none."""
    bond = check_even(bond)
    return crossed_by(bond, check_start(bond, start))
