"""Promises 16 to 19: tight lots, least ones and blocks, carried pairs, what a start crosses."""

import unittest
from fractions import Fraction
from itertools import product
from math import lcm

from helpers import (
    DESK, EVEN, Checks, any_values, best, fitting, full, is_even, listed, lots, never, refuses, same, small_bonds,
    some_bonds, worth,
)
from test_bonds import NO_BONDS
from setitback.bonds import restricted, turned
from setitback.errors import BadBond, NoFilling, Refused
from setitback.flows import circulation
from setitback.tight import blocks, carried, crossing, is_tight, least_tight, tight_lots

# Triangles of four, four in three of a kind, and others whose blocks stand in rows.
STAIRS = (4, 4, tuple((s, t) for s, t in product(range(4), repeat=2) if t <= s))
TWOS = (4, 4, ((0, 0), (0, 1), (1, 0), (1, 1), (2, 1), (2, 2), (2, 3), (3, 2), (3, 3)))
BACK = (4, 4, ((0, 2), (0, 3), (1, 1), (1, 3), (2, 0), (2, 1), (3, 3)))
WIDE = (2, 4, ((0, 0), (0, 1), (1, 1), (1, 2), (1, 3)))
SPREAD = (6, 6, tuple((s, t) for s, t in product(range(6), repeat=2) if t in (s, 5 - s) or (s > 3 and t > 1)))
BONDS = list(small_bonds(3)) + some_bonds(41, 80) + [STAIRS, TWOS, BACK, WIDE, SPREAD, full(4, 6), full(6, 6)]
EVENS = [bond for bond in BONDS if is_even(bond)] + [bond for bond in some_bonds(43, 900) if is_even(bond)][:60]
ODD = [bond for bond in BONDS if not is_even(bond)]


def tight(bond, side, lot):
    return Fraction(len(lot), bond[side]) == Fraction(len(fitting(bond, side, lot)), bond[1 - side])


def tights(bond, side):
    return [lot for lot in lots(bond[side]) if tight(bond, side, lot)]


def crosses(bond, lot, pair):
    return pair[1] in fitting(bond, 0, lot) and pair[0] not in lot


def carried_by_words(bond):
    left = []
    for pair in bond[2]:
        told = any(pair[1 - side] in fitting(bond, side, lot) and pair[side] not in lot
                   for side in (0, 1) for lot in lots(bond[side]) if worth(bond, side, lot) == best(bond, side))
        if not told:
            left.append(pair)
    return tuple(left)


def balanced_with(bond, pair):
    """Whether some balanced weight has the pair above 0, by a flow."""
    m, n, pairs = bond
    size = lcm(m, n)
    arcs = [(s, m + t, int((s, t) == pair), size) for s, t in pairs]
    arcs += [(m + n, s, size // m, size // m) for s in range(m)] + [(m + t, m + n, size // n, size // n) for t in range(n)]
    return circulation(m + n + 1, arcs)[0] == "flow"


class Tight(Checks, unittest.TestCase):
    def test_is_tight_of_any_bond(self):
        for bond in BONDS:
            for side in (0, 1):
                for lot in lots(bond[side]):
                    self.told(tight(bond, side, lot), is_tight(bond, side, lot))

    def test_tight_lots_in_their_order(self):
        many = 0
        for bond in EVENS:
            for side in (0, 1):
                found = tight_lots(bond, side)
                self.told(tuple(tights(bond, side)), found)
                self.assertEqual(list(found), sorted(found, key=lambda lot: (len(lot), lot)))
                many += len(found) > 2
        self.assertGreater(many, 40)
        self.assertGreater(len(EVENS), 100)

    def test_even_bonds(self):
        for bond in EVENS:
            for side in (0, 1):
                every = tights(bond, side)
                for lot in lots(bond[side]):
                    self.assertLessEqual(Fraction(len(lot), bond[side]), Fraction(len(fitting(bond, side, lot)), bond[1 - side]))
                for one, other in product(every[:12], repeat=2):
                    either, both = tuple(sorted(set(one) | set(other))), tuple(sorted(set(one) & set(other)))
                    self.assertIn(either, every)
                    if both:
                        self.assertIn(both, every)
                        shared = set(fitting(bond, side, one)) & set(fitting(bond, side, other))
                        self.assertEqual(set(fitting(bond, side, both)), shared)
                for lot in every:
                    rest = tuple(t for t in range(bond[1 - side]) if t not in fitting(bond, side, lot))
                    if rest:
                        self.assertTrue(is_tight(bond, 1 - side, rest))

    def test_least_tight(self):
        for bond in EVENS:
            for side in (0, 1):
                for filling in range(bond[side]):
                    having = [lot for lot in tights(bond, side) if filling in lot]
                    lot = tuple(sorted(set.intersection(*map(set, having))))
                    self.assertIn(lot, having)
                    self.told(lot, least_tight(bond, side, filling))


class Blocks(Checks, unittest.TestCase):
    def by_words(self, bond):
        """The pieces that carried pairs make, in the order of promise 17."""
        left = []
        for s in range(bond[0]):
            if any(s in lot for lot, _ in left):
                continue
            one, pairs = {s}, carried_by_words(bond)
            for _ in range(6):
                other = {t for x, t in pairs if x in one}
                one = {x for x, t in pairs if t in other}
            left.append((tuple(sorted(one)), tuple(sorted(other))))
        told = []
        while left:
            here = {t for _, others in told for t in others}
            block = min(block for block in left if set(fitting(bond, 0, block[0])) <= here | set(block[1]))
            told.append(block)
            left.remove(block)
        return tuple(told)

    def test_blocks(self):
        longest = 0
        for bond in EVENS:
            found = blocks(bond)
            self.told(self.by_words(bond), found)
            longest = max(longest, len(found))
            self.assertEqual(sorted(s for lot, _ in found for s in lot), list(range(bond[0])))
            self.assertEqual(sorted(t for _, lot in found for t in lot), list(range(bond[1])))
            for lot, others in found:
                self.assertEqual(Fraction(len(lot), bond[0]), Fraction(len(others), bond[1]))
        self.assertGreaterEqual(longest, 4)
        self.told((((0,), (0,)), ((1,), (1,)), ((2,), (2,)), ((3,), (3,))), blocks(STAIRS))
        self.told((((0,), (0,)), ((1,), (1,))), blocks(EVEN))
        self.told((((1,), (1,)), ((0,), (0,))), blocks((2, 2, ((0, 0), (0, 1), (1, 1)))))
        self.told((((0, 1), (0, 1)), ((2, 3), (2, 3))), blocks(TWOS))
        self.told((((3,), (3,)), ((0,), (2,)), ((1,), (1,)), ((2,), (0,))), blocks(BACK))

    def test_tight_lots_are_made_of_whole_blocks(self):
        for bond in EVENS:
            found = blocks(bond)
            made = []
            for which in range(1, 1 << len(found)):
                chosen = [block for at, block in enumerate(found) if which >> at & 1]
                lot = tuple(sorted(s for rows, _ in chosen for s in rows))
                others = {t for _, columns in chosen for t in columns}
                if set(fitting(bond, 0, lot)) <= others:
                    made.append(lot)
            self.assertEqual(sorted(made), sorted(tights(bond, 0)))


class Carried(Checks, unittest.TestCase):
    def test_carried_of_any_bond(self):
        for bond in BONDS:
            found = carried(bond)
            self.told(carried_by_words(bond), found)
            self.assertEqual({s for s, _ in found}, set(range(bond[0])))
            self.assertEqual({t for _, t in found}, set(range(bond[1])))
            less = bond[0], bond[1], found
            self.assertEqual((best(less, 0), best(less, 1)), (best(bond, 0), best(bond, 1)))

    def test_just_the_pairs_of_balanced_weights(self):
        for bond in EVENS:
            self.told(tuple(pair for pair in bond[2] if balanced_with(bond, pair)), carried(bond))

    def test_just_the_pairs_of_shares_between(self):
        # With the root of p q no fraction, take roots a little beside it: what some such weight has above 0 must be
        # carried for a lesser root where that is still enough, and what is carried must be had for a greater one.
        for bond in ODD[:60] + ODD[-20:]:
            p, q = best(bond, 0), best(bond, 1)
            z, c = float(p * q) ** 0.5, float(p / q) ** 0.5
            unit = 10 ** 7
            bounds = (unit, int(unit * z) + 2), (int(unit * c) - 2, int(unit * c * z) + 2)
            found = carried(bond)
            m, n, pairs = bond
            for pair in pairs:
                arcs = [(s, m + t, 1000 if (s, t) == pair else 0, 10 ** 9) for s, t in pairs]
                arcs += [(m + n, s, *bounds[0]) for s in range(m)] + [(m + t, m + n, *bounds[1]) for t in range(n)]
                self.assertEqual(pair in found, circulation(m + n + 1, arcs)[0] == "flow", (bond, pair))

    def test_restricted_and_turned(self):
        for bond in BONDS[::3]:
            self.assertEqual(sorted((t, s) for s, t in carried(bond)), list(carried(turned(bond))))
        self.told(carried(full(6, 6)), full(6, 6)[2])
        self.told(((0, 0),), carried(restricted(EVEN, 0, (0,))))


class Crossing(Checks, unittest.TestCase):
    def test_crossing(self):
        crossed = 0
        for bond in EVENS:
            for pair in bond[2]:
                having = [lot for lot in tights(bond, 0) if crosses(bond, lot, pair)]
                self.assertEqual(not having, pair in carried(bond))
                for one, other in product(having, repeat=2):
                    self.assertIn(tuple(sorted(set(one) & set(other))), having)
                lot = tuple(sorted(set.intersection(*map(set, having)))) if having else None
                self.told(lot, crossing(bond, pair))
                self.told(lot, crossing(bond, list(pair)))
                crossed += bool(having)
        self.assertGreater(crossed, 100)

    def test_no_start(self):
        for bond in (EVEN, STAIRS, full(1, 1)):
            refuses(self, Refused, "value", crossing, (bond,), lambda value: isinstance(value, (list, tuple)) and any(
                same(tuple(value), pair) for pair in bond[2]))
        for value in ((0, 1), [0, 1], (2, 0), (1, 2), (0, -1), (0,), (0, 0, 0), (True, 0), (1, True), (False, 0), None, "00"):
            self.raised(Refused, "value", value, crossing, EVEN, value)


class Wrong(Checks, unittest.TestCase):
    def test_no_bonds(self):
        for value, at in NO_BONDS:
            self.raised(BadBond, "at", at, is_tight, value, None, None)
            self.raised(BadBond, "at", at, tight_lots, value, None)
            self.raised(BadBond, "at", at, least_tight, value, None, None)
            self.raised(BadBond, "at", at, carried, value)
            self.raised(BadBond, "at", at, blocks, value)
            self.raised(BadBond, "at", at, crossing, value, None)

    def test_bonds_that_are_not_even(self):
        self.assertGreater(len(ODD), 40)
        for bond in ODD + [DESK, listed(DESK)]:
            self.raised(Refused, "value", bond, tight_lots, bond, None)
            self.raised(Refused, "value", bond, tight_lots, bond, 0)
            self.raised(Refused, "value", bond, least_tight, bond, None, None)
            self.raised(Refused, "value", bond, least_tight, bond, 1, 0)
            self.raised(Refused, "value", bond, blocks, bond)
            self.raised(Refused, "value", bond, crossing, bond, None)
            self.raised(Refused, "value", bond, crossing, bond, (0, 0))

    def test_no_side_no_lot_no_filling(self):
        def side(value):
            return same(value, 0) or same(value, 1)
        refuses(self, Refused, "value", is_tight, (DESK,), side, ((0,),))
        refuses(self, Refused, "value", is_tight, (DESK,), side, (None,))
        refuses(self, Refused, "value", tight_lots, (EVEN,), side)
        refuses(self, Refused, "value", least_tight, (EVEN,), side, (None,))
        refuses(self, Refused, "value", is_tight, (DESK, 0), lambda value: isinstance(value, (list, tuple)) and any(
            same(tuple(value), lot) for lot in lots(3)))
        refuses(self, NoFilling, "value", least_tight, (EVEN, 0), never)
        for value in any_values() + [2]:
            if not same(value, 0) and not same(value, 1):
                self.raised(NoFilling, "value", value, least_tight, EVEN, 1, value)

    def test_names_and_lists(self):
        self.told(True, is_tight(bond=EVEN, side=0, lot=[0]))
        self.told(((0,), (0, 1)), tight_lots(bond=EVEN, side=0))
        self.told((0, 1), least_tight(bond=EVEN, side=0, filling=1))
        self.told(((0, 0), (1, 1)), carried(bond=EVEN))
        self.told((((0,), (0,)), ((1,), (1,))), blocks(bond=EVEN))
        self.told((0,), crossing(bond=EVEN, start=[1, 0]))
        for bond in EVENS[::10]:
            self.takes_lists(tight_lots, bond, 1)
            self.takes_lists(least_tight, bond, 1, 0)
            self.takes_lists(blocks, bond)
            self.takes_lists(carried, bond)
            self.takes_lists(crossing, bond, bond[2][-1])


if __name__ == "__main__":
    unittest.main()
