"""Lots of bonds that were looked at already: what fits them, and which there are."""

from setitback.anyvalue import is_below, is_row
from setitback.quotients import is_above, lowest_terms


def partners_of(bond, side, lot):
    """The lot of the other side that fits something of the lot, ascending."""
    return tuple(sorted({pair[1 - side] for pair in bond[2] if pair[side] in lot}))


def only_of(bond, side, lot):
    """What of the other side fits nothing outside of the lot, ascending."""
    outside = {pair[1 - side]: True for pair in bond[2] if pair[side] not in lot}
    return tuple([filling for filling in range(bond[1 - side]) if filling not in outside])


def quotient_of(bond, side, lot):
    """How many fillings the lot has by how many fit it, a fraction."""
    return lowest_terms(len(lot), len(partners_of(bond, side, lot)))


def lots_of(many):
    """All lots of so many fillings: those of fewer first, then ascending."""
    lots = [tuple([at for at in range(many) if which >> at & 1]) for which in range(1, 1 << many)]
    return sorted(lots, key=lambda lot: (len(lot), lot))


def either_of(lots):
    """The fillings that are in any of the lots, ascending."""
    return tuple(sorted({filling for lot in lots for filling in lot}))


def common_of(lots):
    """The fillings that are in all of the lots, of which there is one at least, ascending."""
    return tuple([filling for filling in lots[0] if all([filling in lot for lot in lots])])


def greatest_of(bond, side):
    """(The greatest quotient of a lot of this side, the lot that has it and holds all others that have it)."""
    quotients = [(quotient_of(bond, side, lot), lot) for lot in lots_of(bond[side])]
    best = quotients[0][0]
    for found, _ in quotients:
        best = found if is_above(found, best) else best
    return best, either_of([lot for found, lot in quotients if found == best])


def product_of_greatest(bond):
    """The product of both greatest quotients, a fraction."""
    p, q = greatest_of(bond, 0)[0], greatest_of(bond, 1)[0]
    return lowest_terms(p[0] * q[0], p[1] * q[1])


def component(bond, filling):
    """The piece with this filling of side 0: (a lot of side 0, a lot of side 1)."""
    lot = (filling,)
    while True:
        others = partners_of(bond, 0, lot)
        wider = partners_of(bond, 1, others)
        if wider == lot:
            return lot, others
        lot = wider


def pieces_of(bond):
    """All pieces, ascending."""
    found = []
    for filling in range(bond[0]):
        if not any([filling in piece[0] for piece in found]):
            found.append(component(bond, filling))
    return tuple(found)


def is_pair_of(bond, value):
    """Whether any value is a pair of the bond."""
    if not is_row(value, 2) or not is_below(value[0], bond[0]) or not is_below(value[1], bond[1]):
        return False
    return tuple(value) in bond[2]
