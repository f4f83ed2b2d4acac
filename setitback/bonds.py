"""Bonds: which fillings of two forms fit. Lots of them, bonds made of bonds, rules and octets."""

from setitback.anyvalue import is_below, is_lot, is_pair_below, is_row, is_row_below, is_sequence, is_side, is_within
from setitback.errors import BadBond, Broken, NoFilling, Refused
from setitback.forms import MOST_FILLINGS, check_fields, filling_count, row_of
from setitback.lots import degrees_of, only_of, partners_of, pieces_of, quotient_of
from setitback.octets import check_octets, check_place, octet_at


def check_pairs(m, n, value):
    """A sequence as ascending pairs of fillings; BadBond with the first that is none."""
    pairs = []
    for at, pair in enumerate(value):
        if not is_pair_below(pair, m, n):
            raise BadBond(3 + at)
        if at > 0 and tuple(pair) <= pairs[at - 1]:
            raise BadBond(3 + at)
        pairs.append(tuple(pair))
    return tuple(pairs)


def check_bond(value):
    """Any value as a bond, of tuples; BadBond if it is none."""
    if not is_row(value, 3):
        raise BadBond(-1)
    m, n, pairs = value
    if not is_within(m, 1, MOST_FILLINGS):
        raise BadBond(0)
    if not is_within(n, 1, MOST_FILLINGS):
        raise BadBond(1)
    if not is_sequence(pairs):
        raise BadBond(2)
    pairs = check_pairs(m, n, pairs)
    if len({pair[0] for pair in pairs}) < m or len({pair[1] for pair in pairs}) < n:
        raise BadBond(3 + len(pairs))
    return m, n, pairs


def check_side(side):
    """Any value as a side; Refused if it is none."""
    if not is_side(side):
        raise Refused(side)
    return side


def check_filling(filling, many):
    """Any value as a filling, of which there are so many; NoFilling if it is none."""
    if not is_below(filling, many):
        raise NoFilling(filling)
    return filling


def size_of(bond, side):
    """How many fillings a side has."""
    bond = check_bond(bond)
    return bond[check_side(side)]


def check_lot(bond, side, value):
    """Any value as a lot of this side, a tuple; Refused if it is none."""
    if not is_lot(value, size_of(bond, side)):
        raise Refused(value)
    return tuple(value)


def fits(bond, s, t):
    """Whether a filling of side 0 and one of side 1 fit."""
    m, n, pairs = check_bond(bond)
    return (check_filling(s, m), check_filling(t, n)) in pairs


def partners(bond, side, lot):
    """The lot of the other side that fits something of the lot."""
    bond = check_bond(bond)
    return partners_of(bond, side, check_lot(bond, side, lot))


def only(bond, side, lot):
    """What of the other side fits nothing outside of the lot, ascending, perhaps none."""
    bond = check_bond(bond)
    return only_of(bond, side, check_lot(bond, side, lot))


def degrees(bond, side):
    """By filling of this side how many fit it."""
    bond = check_bond(bond)
    return degrees_of(bond, check_side(side))


def quotient(bond, side, lot):
    """How many fillings the lot has by how many its partners are, a fraction."""
    bond = check_bond(bond)
    return quotient_of(bond, side, check_lot(bond, side, lot))


def pieces(bond):
    """The pieces that rows of pairs hold together, ascending: (a lot of side 0, a lot of side 1)."""
    return pieces_of(check_bond(bond))


def bond_with(m, n, pairs):
    """The bond of these pairs, in any order; BadBond if a filling is in none."""
    return check_bond((m, n, sorted(set(pairs))))


def turned(bond):
    """The bond with its sides exchanged."""
    m, n, pairs = check_bond(bond)
    return bond_with(n, m, [(t, s) for s, t in pairs])


def restricted(bond, side, lot):
    """The bond of a lot and its partners alone, both numbered anew."""
    bond = check_bond(bond)
    lot = check_lot(bond, side, lot)
    others = partners_of(bond, side, lot)
    rows, columns = (others, lot) if side == 1 else (lot, others)
    pairs = [(rows.index(s), columns.index(t)) for s, t in bond[2] if s in rows and t in columns]
    return bond_with(len(rows), len(columns), pairs)


def joined(one, other):
    """What fits by either of two bonds of the same sizes."""
    m, n, pairs = check_bond(one)
    more = check_bond(other)
    if (m, n) != more[:2]:
        raise Refused(other)
    return bond_with(m, n, pairs + more[2])


def put_together(one, other):
    """What fits through some filling of side 1 of the one, which is side 0 of the other."""
    m, n, pairs = check_bond(one)
    middle, far, more = check_bond(other)
    if middle != n:
        raise Refused(other)
    return bond_with(m, far, [(s, t) for s, between in pairs for begin, t in more if begin == between])


def beside(one, other):
    """Two bonds beside one another: both parts fit."""
    m, n, pairs = check_bond(one)
    rows, columns, more = check_bond(other)
    if m * rows > MOST_FILLINGS or n * columns > MOST_FILLINGS:
        raise Refused(other)
    return bond_with(m * rows, n * columns, [(s * rows + x, t * columns + y) for s, t in pairs for x, y in more])


def is_rule(value, rows, columns):
    """Whether any value is a rule between forms of these fields."""
    if not is_row(value, 3) or not is_below(value[0], len(rows)) or not is_below(value[1], len(columns)):
        return False
    limits = (rows[value[0]], columns[value[1]])
    return is_sequence(value[2]) and all([is_row_below(pair, limits) for pair in value[2]])


def ruled(rows, columns, rules):
    """The bond of two forms of fields where two fillings fit if all rules hold."""
    rows = check_fields(rows)
    columns = check_fields(columns)
    if not is_sequence(rules) or not all([is_rule(rule, rows, columns) for rule in rules]):
        raise Refused(rules)
    laid = [(at, by, [tuple(pair) for pair in pairs]) for at, by, pairs in rules]
    m, n = filling_count(rows), filling_count(columns)
    found = []
    for s in range(m):
        left = row_of(rows, s)
        for t in range(n):
            right = row_of(columns, t)
            if all([(left[at], right[by]) in pairs for at, by, pairs in laid]):
                found.append((s, t))
    return bond_with(m, n, found)


def bond_octets(bond):
    """The octets of a bond: both sizes, then by filling of side 0 what fits it."""
    bond = check_bond(bond)
    masks = [sum([1 << t for t in partners_of(bond, 0, (s,))]) for s in range(bond[0])]
    return (bond[0], bond[1], *masks)


def bond_at(octets, at):
    """(The bond whose octets begin at this place, the place behind them); Broken if none do."""
    octets = check_octets(octets)
    at = check_place(at)
    m = octet_at(octets, at, 1, MOST_FILLINGS)
    n = octet_at(octets, at + 1, 1, MOST_FILLINGS)
    every = (1 << n) - 1
    pairs = []
    covered = 0
    for s in range(m):
        mask = octet_at(octets, at + 2 + s, 1, every)
        covered = covered | mask
        pairs = pairs + [(s, t) for t in range(n) if mask >> t & 1]
    if covered != every:
        # Until the last row the rest could still be fitted; with this one it cannot.
        raise Broken(at + 1 + m)
    return bond_with(m, n, pairs), at + 2 + m
