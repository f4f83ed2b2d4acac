"""Balanced weights: least ones, papers of a start, and what all starts together take."""

from math import gcd, lcm

from setitback.anyvalue import is_lot, is_row, is_side, is_word
from setitback.bonds import check_bond, check_lot
from setitback.carrying import are_alike_shares, least_weight, shares_of
from setitback.lots import lots_of, partners_of
from setitback.shares import is_weight, weight_with
from setitback.tight import bars, check_even, check_start, crossed_by, is_tight_of


def is_balanced_of(bond, weight):
    shares = shares_of(bond, weight)
    return are_alike_shares(shares[0]) and are_alike_shares(shares[1])


def is_balanced(bond, weight):
    """Whether all shares of side 0 are alike, and all of side 1, and above 0."""
    bond = check_bond(bond)
    return is_balanced_of(bond, weight_with(bond, weight))


def least_balanced(bond, many, lows):
    """The least balanced weight of many times the least size, each number from its low on; None if there is none."""
    size = many * lcm(bond[0], bond[1])
    shares = (size // bond[0], size // bond[1])
    return least_weight(bond, lows, shares, shares)


def least_balanced_with(bond, pair):
    """The least balanced weight of the least size, in which a pair (or None) has 1 at least; None if there is none."""
    return least_balanced(bond, 1, [1 if other == pair else 0 for other in bond[2]])


def balanced(bond, start):
    """The least balanced weight of the least size, in which a start (or None) has 1 at least; None if there is none."""
    bond = check_bond(bond)
    return least_balanced_with(bond, None if start is None else check_start(bond, start))


def start_paper(bond, start):
    """("carried", weight) of a start, or ("crossed", lot)."""
    bond = check_even(bond)
    pair = check_start(bond, start)
    weight = least_balanced_with(bond, pair)
    if weight is None:
        return "crossed", crossed_by(bond, pair)
    return "carried", weight


def is_balanced_weight(bond, value):
    """Whether any value is a balanced weight of a bond that was looked at."""
    return is_weight(bond, value) and is_balanced_of(bond, value)


def carries_start(bond, pair, value):
    """Whether any value is a balanced weight in which a start is above 0, both looked at."""
    return is_balanced_weight(bond, value) and value[bond[2].index(pair)] > 0


def is_crossed_lot(bond, pair, value):
    """Whether any value is a tight lot of side 0 that a start crosses, both looked at."""
    return is_lot(value, bond[0]) and is_tight_of(bond, 0, value) and bars(bond, 0, value, pair)


def start_holds(bond, start, value):
    """Whether any value is a paper of the start: a balanced weight that has it, or a tight lot that it crosses."""
    bond = check_even(bond)
    pair = check_start(bond, start)
    if not is_row(value, 2):
        return False
    if is_word(value[0], "carried"):
        return carries_start(bond, pair, value[1])
    return is_word(value[0], "crossed") and is_crossed_lot(bond, pair, value[1])


def asked_of(bond, side, lot):
    """What a lot asks for: how many times the least size; None if no size is enough."""
    reached = partners_of(bond, side, lot)
    outside = len([pair for pair in bond[2] if pair[1 - side] in reached and pair[side] not in lot])
    room = len(reached) * bond[side] - len(lot) * bond[1 - side]
    if room < 0 or (room == 0 and outside > 0):
        return None
    if room == 0:
        return 1
    return max(1, -(-outside * gcd(bond[0], bond[1]) // room))


def asked(bond, side, lot):
    """How many times the least size a lot asks for, so that all pairs can be above 0; None if no size is enough."""
    bond = check_bond(bond)
    return asked_of(bond, side, check_lot(bond, side, lot))


def all_asked(bond):
    """(What it asks for, side, lot) for all lots of both sides, in the order of papers."""
    return [(asked_of(bond, side, lot), side, lot) for side in (0, 1) for lot in lots_of(bond[side])]


def anywhere(bond):
    """How many times the least size takes all pairs above 0; None if no size does."""
    asks = [told[0] for told in all_asked(check_bond(bond))]
    return None if None in asks else max(asks)


def anywhere_weight(bond):
    """The least balanced weight of that size with all pairs above 0; None if there is none."""
    bond = check_bond(bond)
    many = anywhere(bond)
    return None if many is None else least_balanced(bond, many, [1] * len(bond[2]))


def anywhere_paper(bond):
    """("anywhere", side, lot, weight), or ("barred", side, lot), with the first lot that asks for most."""
    bond = check_bond(bond)
    many = anywhere(bond)
    side, lot = [told[1:] for told in all_asked(bond) if told[0] == many][0]
    if many is None:
        return "barred", side, lot
    return "anywhere", side, lot, anywhere_weight(bond)


def is_lot_of(bond, side, lot):
    """Whether any values are a side of the bond and a lot of it."""
    return is_side(side) and is_lot(lot, bond[side])


def is_told_anywhere(bond, side, lot, weight):
    """Whether a lot asks for just so much as a balanced weight has, with all pairs above 0."""
    many = asked_of(bond, side, lot)
    if many is None or not is_balanced_weight(bond, weight):
        return False
    return min(weight) > 0 and sum(weight) == many * lcm(bond[0], bond[1])


def anywhere_holds(bond, value):
    """Whether any value is such a paper: a lot and a weight of what it asks for, or a lot that bars."""
    bond = check_bond(bond)
    if is_row(value, 4) and is_word(value[0], "anywhere") and is_lot_of(bond, value[1], value[2]):
        return is_told_anywhere(bond, value[1], value[2], value[3])
    if is_row(value, 3) and is_word(value[0], "barred") and is_lot_of(bond, value[1], value[2]):
        return asked_of(bond, value[1], value[2]) is None
    return False
