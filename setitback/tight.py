"""Tight lots of even bonds, their blocks, the pairs that are carried, and what a start crosses."""

from setitback.anyvalue import is_below
from setitback.bonds import check_bond, check_lot, check_side
from setitback.errors import NoFilling, Refused
from setitback.lots import common_of, greatest_of, is_pair_of, lots_of, partners_of, pieces_of, product_of_greatest


def is_tight_of(bond, side, lot):
    """Whether a lot has just as great a share of its side as its partners of theirs."""
    return len(lot) * bond[1 - side] == len(partners_of(bond, side, lot)) * bond[side]


def is_tight(bond, side, lot):
    """Whether a lot of any bond is tight."""
    bond = check_bond(bond)
    return is_tight_of(bond, side, check_lot(bond, side, lot))


def check_even(value):
    """Any value as an even bond, of tuples; BadBond if it is no bond, Refused if it is not even."""
    bond = check_bond(value)
    if product_of_greatest(bond) != (1, 1):
        raise Refused(value)
    return bond


def check_start(bond, start):
    """Any value as a start of a bond that was looked at, a tuple; Refused if it is none."""
    if not is_pair_of(bond, start):
        raise Refused(start)
    return tuple(start)


def tight_of(bond, side):
    """All tight lots of a side: those of fewer fillings first, then ascending."""
    return [lot for lot in lots_of(bond[side]) if is_tight_of(bond, side, lot)]


def tight_lots(bond, side):
    """All tight lots of a side of an even bond: those of fewer fillings first, then ascending."""
    bond = check_even(bond)
    return tuple(tight_of(bond, check_side(side)))


def least_tight(bond, side, filling):
    """The tight lot with a filling that lies in all others with it."""
    bond = check_even(bond)
    side = check_side(side)
    if not is_below(filling, bond[side]):
        raise NoFilling(filling)
    return common_of([lot for lot in tight_of(bond, side) if filling in lot])


def bars(bond, side, lot, pair):
    """Whether a lot of this side has the pair's other filling among its partners, and not its filling here."""
    return pair[side] not in lot and pair[1 - side] in partners_of(bond, side, lot)


def greatest_lots(bond, side):
    """All lots of this side that have its greatest quotient."""
    top, bottom = greatest_of(bond, side)[0]
    return [lot for lot in lots_of(bond[side]) if len(lot) * bottom == len(partners_of(bond, side, lot)) * top]


def carried_of(bond):
    """The carried pairs of a bond that was looked at."""
    lots = [(side, lot) for side in (0, 1) for lot in greatest_lots(bond, side)]
    return tuple([pair for pair in bond[2] if not any([bars(bond, side, lot, pair) for side, lot in lots])])


def carried(bond):
    """Ascending all pairs that no lot of a greatest quotient bars."""
    return carried_of(check_bond(bond))


def stands_next(bond, block, told):
    """Whether what fits the block's lot of side 0 lies in it and in the blocks that were told."""
    reached = [other for _, others in told + [block] for other in others]
    return all([partner in reached for partner in partners_of(bond, 0, block[0])])


def blocks(bond):
    """The blocks, each behind those in which its partners lie: (a lot of side 0, a lot of side 1)."""
    bond = check_even(bond)
    left = list(pieces_of((bond[0], bond[1], carried_of(bond))))
    told = []
    while left:
        # Pieces are ascending, so the first that can stand next has the least filling.
        following = [block for block in left if stands_next(bond, block, told)][0]
        told.append(following)
        left.remove(following)
    return tuple(told)


def crossed_by(bond, pair):
    """Of the tight lots that a start crosses the one that lies in all others, or None; bond and start looked at."""
    crossed = [lot for lot in tight_of(bond, 0) if bars(bond, 0, lot, pair)]
    return common_of(crossed) if crossed else None


def is_bounded(bond, pair):
    """Whether a bond is even and a start of it crosses no tight lot, both looked at."""
    return product_of_greatest(bond) == (1, 1) and crossed_by(bond, pair) is None


def is_crossing(bond, pair):
    """Whether a bond is even and a start of it crosses a tight lot, both looked at."""
    return product_of_greatest(bond) == (1, 1) and crossed_by(bond, pair) is not None


def crossing(bond, start):
    """Of the tight lots of side 0 that a start crosses the one that lies in all others; None if it crosses none."""
    bond = check_even(bond)
    return crossed_by(bond, check_start(bond, start))
