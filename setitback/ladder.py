"""The ladder of a bond whose greatest quotients come to more than 1: its rows and columns, and its layers."""

from setitback.bonds import check_bond
from setitback.endless import check_from_one, check_number
from setitback.errors import Refused
from setitback.lots import product_of_greatest
from setitback.rungs import Rungs, enough_for, first_rung, greatest_two, next_rung
from setitback.tight import carried_of, check_start


def check_uneven(value):
    """Any value as a bond that is not even, of tuples; BadBond if it is no bond, Refused if it is even."""
    bond = check_bond(value)
    if product_of_greatest(bond) == (1, 1):
        raise Refused(value)
    return bond


def steps(bond, great, many):
    """(Rows a_0 to a_many, columns b_0 to b_many)."""
    bond = check_uneven(bond)
    great = check_from_one(great)
    many = check_number(many)
    quotients = greatest_two(bond)
    rungs = [first_rung(quotients, great)]
    for _ in range(many):
        rungs.append(next_rung(quotients, rungs[-1]))
    return tuple([row for row, _ in rungs]), tuple([column for _, column in rungs])


def enough(bond):
    """The least power of two, from 2 on, with which the first rows and the first columns differ by 252 each."""
    return enough_for(greatest_two(check_uneven(bond)))


def layers(bond, start, great, many):
    """So many layers, each a weight of the carried pairs; Refused(great) if one of them cannot be made."""
    bond = check_uneven(bond)
    pair = check_start(bond, start)
    great = check_from_one(great)
    many = check_number(many)
    rungs = Rungs(bond, carried_of(bond), pair, great)
    made = []
    for _ in range(many):
        weight = rungs.next_layer()
        if weight is None:
            raise Refused(great)
        made.append(weight)
    return tuple(made)
