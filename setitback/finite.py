"""Finite machines that lose nothing: out of weights and back, least ones, orbits and what is woven of them."""

from math import lcm

from setitback.alike import placed
from setitback.anyvalue import is_below, is_row, is_sequence
from setitback.bonds import check_bond, check_side
from setitback.carrying import are_alike_shares, shares_of
from setitback.errors import BadMachine, Refused
from setitback.lossless import kept_of, loss_of
from setitback.machines import MOST_SITUATIONS, bonded, kinds_with, machine_with
from setitback.shares import weight_with
from setitback.tight import check_start
from setitback.weaving import copies, moves_by_place, woven_moves
from setitback.weights import least_balanced_with


def machine_out_of(bond, weight, pair):
    """The machine out of a weight, all three looked at, the weight having the start's pair."""
    kinds = copies(bond[2], weight)
    return kinds.index(pair), kinds, moves_by_place(kinds, bond[:2])


def check_even_weight(bond, value):
    """Any value as a weight with like shares on either side and 1 to 400 situations, a tuple."""
    weight = weight_with(bond, value)
    if sum(weight) > MOST_SITUATIONS or not all([are_alike_shares(shares) for shares in shares_of(bond, weight)]):
        raise Refused(value)
    return weight


def parts_of_machine(bond, weight, start):
    """Any values as a bond, such a weight of it and a start to which this gives something, of tuples."""
    bond = check_bond(bond)
    weight = check_even_weight(bond, weight)
    pair = check_start(bond, start)
    if weight[bond[2].index(pair)] == 0:
        raise Refused(start)
    return bond, weight, pair


def machine_of(bond, weight, start):
    """The machine with each pair as many times as its weight, where settings keep the place among what they show."""
    bond, weight, pair = parts_of_machine(bond, weight, start)
    return machine_out_of(bond, weight, pair)


def weight_of(bond, machine):
    """By pair of the bond how many classes that can come show it."""
    bond = check_bond(bond)
    machine = machine_with(bond, machine)
    shows = [machine[1][situation] for situation in placed(machine)[0]]
    return tuple([shows.count(pair) for pair in bond[2]])


def least_machine(bond, start):
    """A lossless machine of the least number of situations from a start; None if no finite one is lossless."""
    bond = check_bond(bond)
    pair = check_start(bond, start)
    weight = least_balanced_with(bond, pair)
    return None if weight is None else machine_out_of(bond, weight, pair)


def is_least(machine):
    """Whether it loses nothing, and as many classes can come as the least common multiple of both sizes."""
    bond, machine = bonded(machine)
    return len(placed(machine)[0]) == lcm(bond[0], bond[1]) and loss_of(machine) is None


def orbits(machine, side):
    """The orbits of the settings of a side, in the order of their classes of filling 0: by filling the place."""
    value = machine
    machine = bonded(value)[1]
    side = check_side(side)
    if loss_of(machine) is not None or kept_of(machine) is not None:
        raise Refused(value)
    firsts, places = placed(machine)
    return tuple([
        tuple([places[found] for found in machine[2][situation][side]])
        for situation in firsts if machine[1][situation][side] == 0
    ])


def are_rows(value, kinds, side, many):
    """Whether any value is rows of situations, by filling of a side, each situation once, where it is shown."""
    if not is_sequence(value) or not all([is_row(row, many) for row in value]):
        return False
    stands = {}
    for row in value:
        for filling, situation in enumerate(row):
            if not is_below(situation, len(kinds)) or kinds[situation][side] != filling or situation in stands:
                return False
            stands[situation] = True
    return len(stands) == len(kinds)


def check_rows(value, kinds, side, many):
    """Any value as such rows, of tuples; Refused if it is none."""
    if not are_rows(value, kinds, side, many):
        raise Refused(value)
    return [tuple(row) for row in value]


def woven(bond, kinds, start, rows, columns):
    """The machine at which a setting of side 0 stays in its row of `rows`, one of side 1 in that of `columns`."""
    bond = check_bond(bond)
    kinds = kinds_with(bond, kinds)
    if not is_below(start, len(kinds)):
        raise BadMachine(0)
    rows = check_rows(rows, kinds, 0, bond[0])
    columns = check_rows(columns, kinds, 1, bond[1])
    return start, kinds, woven_moves(len(kinds), [rows, columns])
