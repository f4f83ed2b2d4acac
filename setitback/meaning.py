"""What a bond and a start come to: the case, how many situations there are, and the paper that shows it."""

from math import lcm

from setitback.anyvalue import is_lot, is_number, is_row, is_word
from setitback.bonds import check_bond
from setitback.endless import check_number
from setitback.errors import Refused
from setitback.growing import Growing
from setitback.hotel import Hotel
from setitback.lots import greatest_of, partners_of, product_of_greatest
from setitback.tight import check_start, crossed_by
from setitback.weights import carries_start, is_balanced_weight, is_crossed_lot, least_balanced_with


def case_of(bond, pair):
    """("grows", product, lot, lot), ("steps", lot) or ("bounded", number), of a bond and a start looked at."""
    worth = product_of_greatest(bond)
    if worth != (1, 1):
        return "grows", worth, greatest_of(bond, 0)[1], greatest_of(bond, 1)[1]
    lot = crossed_by(bond, pair)
    if lot is not None:
        return "steps", lot
    return "bounded", lcm(bond[0], bond[1])


def told(bond, start):
    """("grows", p q, the lots of both greatest quotients), ("steps", the crossed lot) or ("bounded", a number)."""
    bond = check_bond(bond)
    return case_of(bond, check_start(bond, start))


def endless_machine(case, bond, pair):
    """The endless machine of a case that is not bounded."""
    return Growing(bond, pair) if case[0] == "grows" else Hotel(bond, pair)


def check_situation_of(case, situation):
    """Any value as a situation of a world of this case; Refused if it is none."""
    if not is_number(situation) or (case[0] == "bounded" and situation >= case[1]):
        raise Refused(situation)
    return situation


def within(bond, start, many):
    """(The least number of situations within so many settings, no fewer than a world has)."""
    bond = check_bond(bond)
    pair = check_start(bond, start)
    many = check_number(many)
    case = case_of(bond, pair)
    if case[0] != "bounded":
        return endless_machine(case, bond, pair).within(many)
    return min(many + 1, case[1]), (1 if many == 0 else case[1])


def bits(bond, start, many):
    """How many binary digits tell apart the situations of a world within so many settings."""
    return (within(bond, start, many)[1] - 1).bit_length()


def paper(bond, start):
    """("bounded", weight), ("steps", weight, lot) or ("grows", lot, lot)."""
    bond = check_bond(bond)
    pair = check_start(bond, start)
    case = case_of(bond, pair)
    if case[0] == "grows":
        return "grows", case[2], case[3]
    if case[0] == "steps":
        return "steps", least_balanced_with(bond, None), case[1]
    return "bounded", least_balanced_with(bond, pair)


def are_growing(bond, one, other):
    """Whether any values are lots of side 0 and side 1 that have, multiplied, more than their partners have."""
    if not is_lot(one, bond[0]) or not is_lot(other, bond[1]):
        return False
    return len(one) * len(other) > len(partners_of(bond, 0, one)) * len(partners_of(bond, 1, other))


def paper_holds(bond, start, value):
    """Whether any value is a paper of the case of a start."""
    bond = check_bond(bond)
    pair = check_start(bond, start)
    if is_row(value, 2):
        return is_word(value[0], "bounded") and carries_start(bond, pair, value[1])
    if not is_row(value, 3):
        return False
    if is_word(value[0], "steps"):
        return is_balanced_weight(bond, value[1]) and is_crossed_lot(bond, pair, value[2])
    return is_word(value[0], "grows") and are_growing(bond, value[1], value[2])
