"""Promises 67 to 69: machines that never touch what fits, what bars them, and the least of them."""

import unittest
from fractions import Fraction
from itertools import product
from math import lcm
from random import Random

from helpers import (
    EVEN, NO_MACHINES, VIEW, Checks, any_values, bonds_of, full, is_tuples, listed, refuses, same, settings, small_bonds,
    some_bonds, step, walk,
)
from lossless_words import coming_runs, even_bonds, lossless_machines, mixed_machines
from test_bonds import NO_BONDS
from test_machines import shown_bond
from setitback.alike import classes
from setitback.bonds import pieces
from setitback.errors import BadBond, BadMachine, Refused
from setitback.finite import weight_of
from setitback.lossless import is_forgetful, is_lossless
from setitback.machines import check_machine
from setitback.still import is_still, still_bar, still_machine, still_weight, touched

RING = (3, 3, ((0, 0), (0, 1), (1, 1), (1, 2), (2, 0), (2, 2)))
CORNER = (2, 2, ((0, 0), (0, 1), (1, 1)))
# Pieces of degrees 1, 2 and 3, each of as many fillings of either side.
THREE = (6, 6, ((0, 0), *product((1, 2), (1, 2)), *product((3, 4, 5), (3, 4, 5))))


def laid(*sizes):
    """A bond whose pieces have these sizes, all fitting within a piece."""
    m = n = 0
    pairs = []
    for rows, columns in sizes:
        pairs += product(range(m, m + rows), range(n, n + columns))
        m, n = m + rows, n + columns
    return m, n, tuple(pairs)


def ring(many):
    return many, many, tuple(sorted({(s, (s + more) % many) for s in range(many) for more in (0, 1)}))


STILL = [laid((1, 1)), laid((1, 1), (1, 1)), laid((1, 1), (2, 2)), THREE, laid((1, 1), (2, 2), (2, 2)), laid((2, 1), (2, 1)), laid((1, 2), (2, 4)),
         laid((2, 3)), laid((2, 3), (2, 3)), laid((3, 1), (3, 1)), laid((6, 6)), laid((1, 1), (5, 5)), laid((3, 3), (2, 2)), RING, ring(4), ring(5),
         ring(6), (4, 6, tuple(sorted({(s, t) for t, two in enumerate(((0, 1), (0, 2), (0, 3), (1, 2), (1, 3), (2, 3))) for s in two}))),
         # Pieces laid through one another.
         (4, 4, ((0, 0), (0, 2), (1, 1), (1, 3), (2, 0), (2, 2), (3, 1), (3, 3))), (3, 3, ((0, 2), (1, 0), (1, 1), (2, 0), (2, 1)))]


def some_of_all():
    return list(small_bonds(3)) + some_bonds(68, 300) + even_bonds()[::5] + STILL


def degree(bond, side, filling):
    return sum(pair[side] == filling for pair in bond[2])


def bar_by_words(bond):
    lots = pieces(bond)
    for side in (0, 1):
        found = [(one, other) for lot in lots for one in lot[side] for other in lot[side]
                 if one < other and degree(bond, side, one) != degree(bond, side, other)]
        if found:
            return ("degree", side, *min(found))
    worth = [Fraction(len(left), len(right)) for left, right in lots]
    return next((("sizes", 0, at) for at, one in enumerate(worth) if one != worth[0]), None)


def touches(bond, machine, x, setting):
    side, filling = setting
    stood, found = machine[1][x], machine[1][step(machine, x, setting)]
    there = (filling, stood[1]) if side == 0 else (stood[0], filling)
    return there in bond[2] and found[1 - side] != stood[1 - side]


def touched_by_words(bond, machine):
    for run in coming_runs(machine):
        for setting in settings(bond):
            if touches(bond, machine, walk(machine, machine[0], run), setting):
                return run, setting
    return None


class Touched(Checks, unittest.TestCase):
    def test_touched(self):
        seen = {}
        for machine in mixed_machines() + tuple(lossless_machines(67, 60)):
            own = shown_bond(machine[1])
            for bond in {own, full(*own[:2])}:
                expected = touched_by_words(bond, machine)
                self.told(expected, touched(bond, machine))
                self.told(expected is None, is_still(bond, machine))
                self.told(expected, touched(listed(bond), listed(machine)))
                kind = "none" if expected is None else "at once" if expected[0] == () else "later"
                seen[kind] = seen.get(kind, 0) + 1
        self.assertEqual(sorted(seen), ["at once", "later", "none"])
        self.assertGreater(min(seen.values()), 20)

    def test_what_fits_is_told_by_the_bond_that_is_passed(self):
        machine = (0, ((0, 0), (1, 1), (2, 2)), (((0, 1, 2),) * 2,) * 3)
        own = (3, 3, ((0, 0), (1, 1), (2, 2)))
        self.told(None, touched(own, machine))
        self.told(((), (0, 2)), touched(RING, machine))
        self.told(((), (0, 1)), touched(full(3, 3), machine))
        self.told(((), (1, 1)), touched((3, 3, ((0, 0), (0, 1), (1, 1), (2, 2))), machine))
        self.told(True, is_still(own, machine))
        self.told(False, is_still(RING, machine))

    def test_settings_of_what_stands_and_what_cannot_come(self):
        # Setting what stands leads to another filling of the other form: what fits is touched.
        restless = (0, ((0, 0), (0, 1)), (((1,), (0, 1)), ((1,), (0, 1))))
        self.told(((), (0, 0)), touched((1, 2, ((0, 0), (0, 1))), restless))
        # Only a situation that cannot come is touched.
        apart = (0, ((0, 0), (0, 0)), (((0,), (0,)), ((0,), (0,))))
        self.told(True, is_still(full(1, 1), apart))
        far = (0, ((0, 0), (1, 1), (1, 0)), (((0, 1), (0, 1)), ((0, 1), (0, 1)), ((0, 1), (0, 1))))
        self.told(((), (0, 1)), touched(EVEN, far))
        self.told(None, touched((2, 2, ((0, 0), (1, 1))), (0, far[1][:2], far[2][:2])))

    def test_wrong_values(self):
        for call in (touched, is_still):
            for value, at in NO_BONDS:
                self.raised(BadBond, "at", at, call, value, None)
            for value, at in NO_MACHINES:
                self.raised(BadMachine, "at", at, call, EVEN, value)
            self.raised(BadMachine, "at", 1, call, (2, 2, ((0, 0), (1, 1))), (0, ((0, 0), (1, 0)), (((0, 1), (0, 0)), ((0, 1), (0, 0)))))
            self.raised(BadMachine, "at", 1, call, CORNER, still_machine((2, 2, ((0, 0), (0, 1), (1, 0), (1, 1))), (0, 0)))


class Bars(Checks, unittest.TestCase):
    def test_still_bar(self):
        seen = {}
        for bond in some_of_all():
            expected = bar_by_words(bond)
            self.told(expected, still_bar(bond))
            self.told(expected, still_bar(listed(bond)))
            kind = "none" if expected is None else expected[:2]
            seen[kind] = seen.get(kind, 0) + 1
        self.assertEqual(len(seen), 4)
        self.assertGreater(min(seen.values()), 15)

    def test_known_ones(self):
        self.told(("degree", 0, 0, 1), still_bar(CORNER))
        self.told(("degree", 1, 0, 1), still_bar(VIEW))
        self.told(("sizes", 0, 1), still_bar(laid((2, 1), (1, 1))))
        self.told(("sizes", 0, 2), still_bar(laid((2, 2), (1, 1), (2, 1))))
        # Unlike degrees of two pieces bar nothing.
        self.told(None, still_bar(THREE))
        # The least two of one piece, not of the first piece.
        self.told(("degree", 0, 0, 3), still_bar((4, 4, ((0, 0), (0, 1), (1, 2), (2, 3), (3, 1)))))
        self.told(("degree", 0, 1, 2), still_bar((3, 3, ((0, 0), (1, 1), (1, 2), (2, 2)))))

    def test_still_weight(self):
        many = 0
        for bond in some_of_all():
            weight = still_weight(bond)
            self.told(weight, still_weight(listed(bond)))
            if bar_by_words(bond) is not None:
                self.told(None, weight)
                continue
            common = lcm(*[degree(bond, 0, s) for s in range(bond[0])])
            self.told(tuple(common // degree(bond, 0, s) for s, _ in bond[2]), weight)
            # By pieces all pairs have one number, and no smaller ones would do.
            self.assertEqual(lcm(*weight, common), common)
            for left, _ in pieces(bond):
                self.assertEqual(len({number for pair, number in zip(bond[2], weight) if pair[0] in left}), 1)
            many += 1
        self.assertGreater(many, 40)
        self.told((6, *[3] * 4, *[2] * 9), still_weight(THREE))

    def test_no_bonds(self):
        for value, at in NO_BONDS:
            self.raised(BadBond, "at", at, still_bar, value)
            self.raised(BadBond, "at", at, still_weight, value)
            self.raised(BadBond, "at", at, still_machine, value, None)


def machine_by_words(bond, start):
    weight = still_weight(bond)
    situations = [(pair, copy) for pair, many in zip(bond[2], weight) for copy in range(many)]
    moves = []
    for pair, copy in situations:
        rows = []
        for side in (0, 1):
            row = []
            for filling in range(bond[side]):
                there = (filling, pair[1]) if side == 0 else (pair[0], filling)
                if there in bond[2]:
                    row.append(situations.index((there, copy)))
                    continue

                def rest(one, other):
                    return [x for x, (kind, _) in enumerate(situations) if kind[side] == one and not any(
                        known[side] == other and known[1 - side] == kind[1 - side] for known in bond[2])]
                row.append(rest(filling, pair[side])[rest(pair[side], filling).index(situations.index((pair, copy)))])
            rows.append(tuple(row))
        moves.append(tuple(rows))
    return situations.index((start, 0)), tuple(pair for pair, _ in situations), tuple(moves)


class Machines(Checks, unittest.TestCase):
    def test_still_machine(self):
        many, copied = 0, 0
        for bond in some_of_all():
            for start in bond[2]:
                machine = still_machine(bond, start)
                if bar_by_words(bond) is not None:
                    self.told(None, machine)
                    continue
                self.told(machine_by_words(bond, start), machine)
                self.told(machine, check_machine(bond, machine))
                self.told(machine, still_machine(listed(bond), list(start)))
                many += 1
                copied += max(still_weight(bond)) > 1
        self.assertGreater(many, 150)
        self.assertGreater(copied, 20)

    def test_it_is_lossless_and_still_and_of_just_so_many(self):
        keeps = 0
        for bond in STILL:
            for start in bond[2][::3]:
                machine = still_machine(bond, start)
                self.told(True, is_lossless(machine))
                self.told(True, is_still(bond, machine))
                self.assertEqual(machine[1][machine[0]], start)
                common = lcm(*[degree(bond, 0, s) for s in range(bond[0])])
                self.assertEqual(len(machine[1]), bond[0] * common)
                keeps += not is_forgetful(machine)
                for x, pair in enumerate(machine[1]):
                    for side, filling in settings(bond):
                        y = step(machine, x, (side, filling))
                        self.assertEqual(step(machine, y, (side, pair[side])), x)
                        self.assertTrue(pair[side] != filling or y == x)
        # With the ring of three and three some settings are not forgotten.
        self.assertGreater(keeps, 0)
        self.assertFalse(is_forgetful(still_machine(RING, (0, 0))))

    def test_classes_are_a_multiple_of_the_weight(self):
        seen = 0
        for machine in list(mixed_machines()) + lossless_machines(69, 200, 10):
            bond = shown_bond(machine[1])
            if is_lossless(machine) and is_still(bond, machine):
                self.assertIsNone(still_bar(bond))
                weight, least = weight_of(bond, machine), still_weight(bond)
                times = sum(weight) // sum(least)
                self.assertEqual(weight, tuple(times * number for number in least))
                self.assertEqual(len(classes(machine)) % len(still_machine(bond, bond[2][0])[1]), 0)
                seen += 1
        self.assertGreater(seen, 30)

    def test_where_something_bars_no_small_machine_is_lossless_and_still(self):
        random, seen = Random(70), {True: 0, False: 0}
        for bond in [bond for m in (1, 2) for n in (1, 2) for bond in bonds_of(m, n)]:
            for times in product(range(1, 4), repeat=len(bond[2])):
                kinds = [pair for pair, many in zip(bond[2], times) for _ in range(many)]
                for _ in range(6):
                    moves = tuple(tuple(tuple(self.still_choice(random, bond, kinds, x, side, filling) for filling in range(bond[side]))
                                        for side in (0, 1)) for x in range(len(kinds)))
                    machine = (random.randrange(len(kinds)), tuple(kinds), moves)
                    if not is_lossless(machine) or len(set(machine[1])) < len(bond[2]):
                        continue
                    if len({machine[1][lot[0]] for lot in classes(machine)}) == len(bond[2]):
                        self.assertIsNone(still_bar(bond))
                    seen[still_bar(bond) is None] += 1
        self.assertGreater(seen[True], 10)

    def still_choice(self, random, bond, kinds, x, side, filling):
        there = (filling, kinds[x][1]) if side == 0 else (kinds[x][0], filling)
        if filling == kinds[x][side]:
            return x
        if there in bond[2]:
            return random.choice([y for y, kind in enumerate(kinds) if kind == there])
        return random.choice([y for y, kind in enumerate(kinds) if kind[side] == filling])

    def test_no_starts(self):
        for bond in (EVEN, RING):
            def right(value):
                return any(same(value, pair) or same(value, list(pair)) for pair in bond[2])
            refuses(self, Refused, "value", still_machine, (bond,), right)
        for value in ((0, 1), (2, 2), (True, 1), (1, False), (0,), (0, 0, 0), None):
            self.raised(Refused, "value", value, still_machine, EVEN, value)
        self.told(None, still_machine(EVEN, [1, 1]))
        self.assertGreater(len(any_values()), 40)

    def test_names_and_lists(self):
        found = still_machine(bond=RING, start=(0, 0))
        self.told(None, touched(bond=RING, machine=found))
        self.told(True, is_still(bond=RING, machine=found))
        self.told(None, still_bar(bond=RING))
        self.told((1,) * 6, still_weight(bond=RING))
        self.takes_lists(still_machine, THREE, (0, 0))
        self.takes_lists(touched, RING, (0, ((0, 0), (1, 1), (2, 2)), (((0, 1, 2),) * 2,) * 3))
        self.assertTrue(is_tuples((still_machine(listed(THREE), [0, 0]), still_bar(listed(CORNER)), still_weight(listed(THREE)))))


if __name__ == "__main__":
    unittest.main()
