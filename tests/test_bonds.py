"""Promises 7 and 8: bonds, what is none, their lots and what is told of them."""

import unittest
from fractions import Fraction
from itertools import product

from helpers import (
    DESK, EVEN, VIEW, Checks, any_values, best, bonds_of, fitting, full, is_tuples, listed, lots, never, parts, refuses, same,
    small_bonds, some_bonds, worth,
)
from setitback.bonds import check_bond, check_lot, degrees, fits, only, partners, pieces, quotient, size_of
from setitback.errors import BadBond, NoFilling, Refused

BONDS = list(small_bonds(3)) + some_bonds(7, 60)
# Wrong bonds, each with where it is none.
NO_BONDS = [
    (None, -1), (True, -1), ("123", -1), ((), -1), ((1, 1), -1), ((1, 1, ((0, 0),), 0), -1), (3, -1), (Refused(0), -1),
    ((0, 1, ((0, 0),)), 0), ((7, 7, None), 0), ((True, 1, ((0, 0),)), 0), ((None, None, None), 0), (("1", 0, ()), 0),
    ((-1, 1, ()), 0), (((1,), 1, ()), 0), ((1, 0, ((0, 0),)), 1), ((1, 7, None), 1), ((1, True, ((0, 0),)), 1), ((6, None, 1), 1),
    ((6, "1", 1), 1), ((1, 1, None), 2), ((1, 1, "ab"), 2), ((1, 1, 0), 2), ((1, 1, False), 2), ((1, 1, Refused(0)), 2),
    ((1, 1, ()), 3), ((2, 2, []), 3), ((1, 1, (0, 0)), 3), ((1, 1, ((0,),)), 3), ((1, 1, ((0, 0, 0),)), 3), ((1, 1, ((0, 1),)), 3),
    ((1, 1, ((1, 0),)), 3), ((1, 1, ((-1, 0),)), 3), ((1, 1, ((False, 0),)), 3), ((1, 1, ((0, False),)), 3), ((1, 1, ("00",)), 3),
    ((1, 1, ((0, 0), (0, 0))), 4), ((2, 2, ((0, 0), (1, 1), (1, 0))), 5), ((2, 2, ((0, 1), (0, 0), (9, 9))), 4),
    ((2, 2, ((0, 0), (0, 1))), 5), ((2, 2, ((0, 0), (1, 0))), 5), ((3, 1, ((0, 0), (2, 0))), 5), ((2, 2, ((1, 1),)), 4),
    ((2, 2, ((0, 0), None, (1, 1))), 4), ((2, 2, ((0, 0), (1, 1), ())), 5), ((2, 2, ((0, 0), (1, 1), (1, True))), 5),
]


def bad_at(m, n, pairs):
    """Where three right kinds of parts are no bond, by the words of promise 7; None if they are one."""
    for part, size in enumerate((m, n)):
        if not 1 <= size <= 6:
            return part
    for at, pair in enumerate(pairs):
        if len(pair) != 2 or not (0 <= pair[0] < m and 0 <= pair[1] < n) or (at and pairs[at - 1] >= pair):
            return 3 + at
    whole = {s for s, _ in pairs} == set(range(m)) and {t for _, t in pairs} == set(range(n))
    return None if whole else 3 + len(pairs)


# Each function of module bonds that looks at a bond first, with what follows the bond.
FIRST = [(check_bond, ()), (size_of, (0,)), (check_lot, (0, (0,))), (fits, (0, 0)), (partners, (0, (0,))), (only, (0, (0,))),
         (degrees, (0,)), (quotient, (0, (0,))), (pieces, ())]


class Bonds(Checks, unittest.TestCase):
    def test_all_small_bonds(self):
        self.assertEqual([len(list(bonds_of(m, n))) for m, n in ((1, 1), (2, 2), (2, 3), (3, 3))], [1, 7, 25, 265])
        for bond in BONDS + [full(6, 6), full(1, 6), full(6, 1)]:
            self.told(bond, check_bond(bond))
            self.told(bond, check_bond(listed(bond)))
            self.told(bond[0], size_of(bond, 0))
            self.told(bond[1], size_of(bond, 1))

    def test_all_sequences_of_pairs(self):
        items = [(0, 0), (0, 1), (1, 0), (1, 1), (2, 0), (0,)]
        for m, n in product(range(4), repeat=2):
            for many in range(5):
                for pairs in product(items, repeat=many):
                    at = bad_at(m, n, pairs)
                    if at is None:
                        self.told((m, n, pairs), check_bond([m, n, listed(pairs)]))
                    else:
                        self.raised(BadBond, "at", at, check_bond, (m, n, pairs))

    def test_no_bonds(self):
        for call, rest in FIRST:
            for value, at in NO_BONDS:
                self.raised(BadBond, "at", at, call, value, *rest)
                self.raised(BadBond, "at", at, call, listed(value), *rest)
                # What comes behind the bond is not looked at yet.
                self.raised(BadBond, "at", at, call, value, *[None] * len(rest))

    def test_sizes_of_seven(self):
        for m, n in ((7, 1), (1, 7), (7, 7)):
            self.raised(BadBond, "at", 0 if m == 7 else 1, check_bond, full(m, n))

    def test_any_value_as_a_bond(self):
        for value in any_values():
            self.assertRaises(BadBond, check_bond, value)

    def test_arguments_stay_and_names(self):
        for bond in BONDS[::7]:
            self.takes_lists(check_bond, bond)
            self.takes_lists(partners, bond, 0, (0,))
            self.takes_lists(only, bond, 1, (0,))
            self.takes_lists(quotient, bond, 1, (0,))
            self.takes_lists(pieces, bond)
        self.told(3, size_of(bond=VIEW, side=1))
        self.told((0, 1), check_lot(bond=VIEW, side=0, value=[0, 1]))
        self.told(True, fits(bond=VIEW, s=1, t=2))
        self.told((0, 1), partners(bond=VIEW, side=0, lot=[0]))
        self.told((0,), only(bond=VIEW, side=0, lot=[0]))
        self.told((1, 2, 1), degrees(bond=VIEW, side=1))
        self.told((3, 2), quotient(bond=VIEW, side=1, lot=[0, 1, 2]))
        self.told((VIEW,), (check_bond(value=VIEW),))
        self.told((((0, 1), (0, 1, 2)),), pieces(bond=VIEW))


class Sides(Checks, unittest.TestCase):
    def test_no_side(self):
        def right(value):
            return type(value) is int and value in (0, 1)
        for call, rest in ((size_of, ()), (check_lot, ((0,),)), (partners, ((0,),)), (only, ((0,),)), (degrees, ()), (quotient, ((0,),))):
            refuses(self, Refused, "value", call, (VIEW,), right, rest)
            self.raised(Refused, "value", 2, call, VIEW, 2, *[None] * len(rest))

    def test_no_lot(self):
        for call in (check_lot, partners, only, quotient):
            for side, many in ((0, 2), (1, 3)):
                def right(value):
                    return isinstance(value, (list, tuple)) and any(same(tuple(value), lot) for lot in lots(many))
                refuses(self, Refused, "value", call, (VIEW, side), right)
                for value in ((1, 0), (0, 0), (0, many), [-1, 0], (0, True), (False,), (many,), tuple(range(many + 1)), (0, None), ()):
                    self.raised(Refused, "value", value, call, VIEW, side, value)

    def test_all_lots(self):
        for bond in BONDS[::5]:
            for side in (0, 1):
                for many in range(4):
                    for value in product(range(-1, 4), repeat=many):
                        if value in lots(bond[side]):
                            self.told(value, check_lot(bond, side, listed(value)))
                        else:
                            self.raised(Refused, "value", value, check_lot, bond, side, value)

    def test_fits(self):
        for bond in BONDS[::3]:
            for s, t in product(range(bond[0]), range(bond[1])):
                self.told((s, t) in bond[2], fits(bond, s, t))
        refuses(self, NoFilling, "value", fits, (EVEN,), never, (0,))
        refuses(self, NoFilling, "value", fits, (EVEN,), never, (None,))
        refuses(self, NoFilling, "value", fits, (EVEN, 1), never)
        self.raised(NoFilling, "value", 2, fits, VIEW, 2, 9)
        self.raised(NoFilling, "value", 3, fits, VIEW, 1, 3)


class Lots(Checks, unittest.TestCase):
    def test_all_lots_of_small_bonds(self):
        for bond in BONDS:
            for side in (0, 1):
                for lot in lots(bond[side]):
                    found = partners(bond, side, lot)
                    self.told(fitting(bond, side, lot), found)
                    kept = tuple(other for other in range(bond[1 - side])
                                 if all(pair[side] in lot for pair in bond[2] if pair[1 - side] == other))
                    self.told(kept, only(bond, side, lot))
                    self.told(parts(Fraction(len(lot), len(found))), quotient(bond, side, lot))

    def test_only_holds_what_has_all_partners_in_the_lot(self):
        for bond in BONDS[::2]:
            for side in (0, 1):
                for lot in lots(bond[side]):
                    inside = only(bond, side, lot)
                    for other in lots(bond[1 - side]):
                        self.assertEqual(set(other) <= set(inside), set(partners(bond, 1 - side, other)) <= set(lot))

    def test_degrees(self):
        for bond in BONDS:
            for side in (0, 1):
                many = tuple(sum(pair[side] == filling for pair in bond[2]) for filling in range(bond[side]))
                self.told(many, degrees(bond, side))

    def test_pieces(self):
        for bond in BONDS:
            found = pieces(bond)
            self.assertTrue(is_tuples(found))
            self.assertEqual(list(found), sorted(found))
            place = {(side, filling): at for at, piece in enumerate(found) for side in (0, 1) for filling in piece[side]}
            self.assertEqual(sum(len(lot) for piece in found for lot in piece), bond[0] + bond[1])
            self.assertEqual(len(place), bond[0] + bond[1])
            # Merging along pairs, one after another, gives the same pieces.
            mark = {node: node for node in place}
            for s, t in bond[2]:
                one, other = mark[0, s], mark[1, t]
                mark = {node: one if known == other else known for node, known in mark.items()}
            for x in place:
                for y in place:
                    self.assertEqual(place[x] == place[y], mark[x] == mark[y])
            self.assertTrue(all(lot == tuple(sorted(lot)) and lot for piece in found for lot in piece))

    def test_p_q_is_at_least_one(self):
        for bond in BONDS:
            self.assertGreaterEqual(best(bond, 0) * best(bond, 1), 1)
            for side in (0, 1):
                quotients = [Fraction(*quotient(bond, side, lot)) for lot in lots(bond[side])]
                self.assertEqual(max(quotients), best(bond, side))
                self.assertEqual(quotients, [worth(bond, side, lot) for lot in lots(bond[side])])
        self.told((3, 2), quotient(DESK, 0, (0, 1, 2)))
        self.told((1, 1), quotient(full(6, 6), 0, (0, 1, 2, 3, 4, 5)))
        self.told((1, 6), quotient(full(6, 6), 1, (3,)))


if __name__ == "__main__":
    unittest.main()
