"""Lots of bonds that were looked at already: what fits them, and which there are."""

from setitback.anyvalue import is_pair_below
from setitback.quotients import lowest_terms


def partners_of(bond, side, lot):
    """The lot of the other side that fits something of the lot, ascending."""
    return tuple(sorted({pair[1 - side] for pair in bond[2] if pair[side] in lot}))


def only_of(bond, side, lot):
    """What of the other side fits nothing outside of the lot, ascending."""
    outside = {pair[1 - side]: True for pair in bond[2] if pair[side] not in lot}
    return tuple([filling for filling in range(bond[1 - side]) if filling not in outside])


def quotient_of(bond, side, lot):
    """How many fillings the lot has by how many fit it, a fraction."""
    return lowest_terms(len(lot), len(partners_of(bond, side, lot)))


def degrees_of(bond, side):
    """By filling of a side how many fit it."""
    return tuple([len(partners_of(bond, side, (filling,))) for filling in range(bond[side])])


def lots_of(many):
    """All lots of so many fillings: those of fewer first, then ascending."""
    lots = [tuple([at for at in range(many) if which >> at & 1]) for which in range(1, 1 << many)]
    return sorted(lots, key=lambda lot: (len(lot), lot))


def common_of(lots):
    """The fillings that are in all of the lots, of which there is one at least, ascending."""
    return tuple([filling for filling in lots[0] if all([filling in lot for lot in lots])])


def lot_with(bits):
    """The ascending fillings whose bits are set in a number."""
    return tuple([filling for filling in range(bits.bit_length()) if bits >> filling & 1])


def reaches(bond, side):
    """By lot of a side, as the bits of a number, its partners likewise; lot 0, no filling at all, has none."""
    near = [0] * bond[side]
    for pair in bond[2]:
        near[pair[side]] = near[pair[side]] | 1 << pair[1 - side]
    reached = [0]
    for partners in near:
        reached = reached + [others | partners for others in reached]
    return reached


def bit_counts(width):
    """By number of so many bits how many of them are set."""
    counts = [0]
    for _ in range(width):
        counts = counts + [many + 1 for many in counts]
    return counts


def sized_lots(bond, side):
    """(Lot, partners, how many the lot has, how many partners) by lot of a side, lots as the bits of numbers."""
    counts = bit_counts(max(bond[0], bond[1]))
    reached = reaches(bond, side)
    return [(lot, reached[lot], counts[lot], counts[reached[lot]]) for lot in range(1, len(reached))]


def greatest_of(bond, side):
    """(The greatest quotient of a lot of this side, the lot that has it and holds all others that have it)."""
    best = (0, 1)
    either = 0
    for lot, _, many, others in sized_lots(bond, side):
        if many * best[1] > best[0] * others:
            best = (many, others)
            either = lot
        elif many * best[1] == best[0] * others:
            either = either | lot
    return lowest_terms(best[0], best[1]), lot_with(either)


def product_of_greatest(bond):
    """The product of both greatest quotients, a fraction."""
    p, q = greatest_of(bond, 0)[0], greatest_of(bond, 1)[0]
    return lowest_terms(p[0] * q[0], p[1] * q[1])


def component(bond, filling):
    """The piece with this filling of side 0: (a lot of side 0, a lot of side 1)."""
    lot = (filling,)
    while True:
        others = partners_of(bond, 0, lot)
        wider = partners_of(bond, 1, others)
        if wider == lot:
            return lot, others
        lot = wider


def pieces_of(bond):
    """All pieces, ascending."""
    found = []
    for filling in range(bond[0]):
        if not any([filling in piece[0] for piece in found]):
            found.append(component(bond, filling))
    return tuple(found)


def is_pair_of(bond, value):
    """Whether any value is a pair of the bond."""
    return is_pair_below(value, bond[0], bond[1]) and tuple(value) in bond[2]
