"""The greatest quotients of lots, climbing to them by prices, and weights that show them."""

from setitback.anyvalue import are_numbers, is_lot, is_number, is_row, is_word
from setitback.bonds import check_bond, check_side
from setitback.carrying import are_alike_shares, least_weight, shares_of
from setitback.errors import BadWeight, Refused
from setitback.lots import greatest_of, lot_with, partners_of, product_of_greatest, quotient_of, sized_lots


def check_price(price):
    """Any value as a price, a tuple; Refused if it is none."""
    if not is_row(price, 2) or not is_number(price[0]) or not is_number(price[1]) or price[1] == 0:
        raise Refused(price)
    return tuple(price)


def worth_at(bond, side, lot, price):
    """What a lot is worth at a price, times the bottom of the price."""
    return price[1] * len(lot) - price[0] * len(partners_of(bond, side, lot))


def worthiest(bond, side, price):
    """Of the lots that are worth most, none at all among them, the one that holds all others."""
    most = 0
    either = 0
    for lot, _, many, others in sized_lots(bond, side):
        worth = price[1] * many - price[0] * others
        if worth > most:
            most = worth
            either = lot
        elif worth == most:
            either = either | lot
    return lot_with(either)


def lot_at(bond, side, price):
    """The lot that is worth most at a price and holds all others that are, perhaps ()."""
    bond = check_bond(bond)
    side = check_side(side)
    return worthiest(bond, side, check_price(price))


def climb(bond, side):
    """A row of (quotient, lot), from all fillings up to the greatest quotient."""
    bond = check_bond(bond)
    lot = tuple(range(bond[check_side(side)]))
    row = []
    price = (0, 1)
    while worth_at(bond, side, lot, price) > 0:
        price = quotient_of(bond, side, lot)
        row.append((price, lot))
        lot = worthiest(bond, side, price)
    return tuple(row)


def greatest(bond, side):
    """(The greatest quotient of a lot of this side, the lot that has it and holds all others that have it)."""
    bond = check_bond(bond)
    return greatest_of(bond, check_side(side))


def product(bond):
    """The product of both greatest quotients, a fraction."""
    return product_of_greatest(check_bond(bond))


def weight_for(many, value):
    """Any value as a weight of so many numbers, a tuple; BadWeight if it is none."""
    if not is_row(value, many):
        raise BadWeight(-1)
    for at, number in enumerate(value):
        if not is_number(number):
            raise BadWeight(at)
    return tuple(value)


def weight_with(bond, value):
    """Any value as a weight of a bond that was looked at, a tuple; BadWeight if it is none."""
    return weight_for(len(bond[2]), value)


def check_weight(bond, value):
    """Any value as a weight, a tuple; BadWeight if it is none."""
    return weight_with(check_bond(bond), value)


def share_sums(bond, weight):
    """(The shares of side 0, those of side 1)."""
    bond = check_bond(bond)
    return shares_of(bond, weight_with(bond, weight))


def sided(side, one, other):
    """(What is of side 0, what is of side 1), where `one` is of the side and `other` of the other one."""
    return (other, one) if side == 1 else (one, other)


def quotient_paper(bond, side):
    """("quotient", lot, weight): the lot of `greatest`, and the least weight that shows it."""
    bond = check_bond(bond)
    (top, bottom), lot = greatest_of(bond, check_side(side))
    weight = least_weight(bond, [0] * len(bond[2]), sided(side, bottom, 0), sided(side, bottom, top))
    return "quotient", lot, weight


def is_weight(bond, value):
    """Whether any value is a weight of a bond that was looked at."""
    return are_numbers(value, len(bond[2]))


def quotient_holds(bond, side, value):
    """Whether any value is a lot and a weight which shows that no quotient is greater than the lot's."""
    bond = check_bond(bond)
    side = check_side(side)
    if not is_row(value, 3) or not is_word(value[0], "quotient"):
        return False
    if not is_lot(value[1], bond[side]) or not is_weight(bond, value[2]):
        return False
    top, bottom = quotient_of(bond, side, value[1])
    shares = shares_of(bond, value[2])
    if not are_alike_shares(shares[side]):
        return False
    return max(shares[1 - side]) * bottom <= top * shares[side][0]
