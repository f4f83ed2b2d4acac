"""Promises 33 to 36: machines out of weights and back, least ones, orbits, and machines that are woven."""

import unittest
from math import lcm
from random import Random

from helpers import (
    EVEN, NO_MACHINES, RIGHT, VIEW, Checks, all_machines, any_values, bonds_of, full, is_even, is_tuples, listed, refuses,
    same, small_bonds, some_bonds, step,
)
from lossless_words import classes_by_words, crosses, even_bonds, lossless_machine, lossless_machines, mixed_machines, some_weight
from test_bonds import NO_BONDS
from test_machines import shown_bond
from setitback.alike import apart, classes, made_least
from setitback.errors import BadBond, BadMachine, BadWeight, Refused
from setitback.finite import is_least, least_machine, machine_of, orbits, weight_of, woven
from setitback.lossless import is_forgetful, is_lossless, loss, onto
from setitback.machines import check_machine, come
from setitback.weights import balanced

CORNER = (2, 2, ((0, 0), (0, 1), (1, 1)))


def machine_by_words(bond, weight, start):
    kinds = [pair for pair, many in zip(bond[2], weight) for _ in range(many)]
    moves = []
    for kind in kinds:
        x = len(moves)
        rows = []
        for side in (0, 1):
            place = [y for y, other in enumerate(kinds) if other[side] == kind[side]].index(x)
            rows.append(tuple([y for y, other in enumerate(kinds) if other[side] == filling][place] for filling in range(bond[side])))
        moves.append(tuple(rows))
    return kinds.index(start), tuple(kinds), tuple(moves)


def shares(bond, weight):
    return [[sum(many for pair, many in zip(bond[2], weight) if pair[side] == filling) for filling in range(bond[side])]
            for side in (0, 1)]


class OutOfWeights(Checks, unittest.TestCase):
    def test_machine_of(self):
        random = Random(1)
        for bond in even_bonds():
            for many in (1, 2):
                weight = some_weight(random, bond, many)
                for at, start in enumerate(bond[2]):
                    if weight[at] == 0:
                        self.raised(Refused, "value", start, machine_of, bond, weight, start)
                        continue
                    machine = machine_of(bond, weight, start)
                    self.told(machine_by_words(bond, weight, start), machine)
                    if at % 3 == 0:
                        self.told(machine, check_machine(bond, machine))
                        self.told(True, is_lossless(machine))
                        self.told(True, is_forgetful(machine))

    def test_sums_of_one_and_of_four_hundred(self):
        self.told((0, ((0, 0),), (((0,), (0,)),)), machine_of(full(1, 1), (1,), (0, 0)))
        for bond, weight in ((full(1, 1), (400,)), (full(2, 2), (150, 50, 50, 150)), (full(2, 2), (0, 200, 200, 0)), (full(4, 5), (20,) * 20)):
            start = bond[2][1 if weight[0] == 0 else 0]
            machine = machine_of(bond, weight, start)
            self.assertEqual(len(machine[1]), 400)
            self.told(machine_by_words(bond, weight, start), machine)
        for bond, weight in ((full(1, 1), (0,)), (full(1, 1), (401,)), (full(2, 2), (0,) * 4), (full(2, 2), (101, 100, 100, 101)),
                             (full(1, 1), (10 ** 9,)), (full(1, 1), (10 ** 30,))):
            self.raised(Refused, "value", weight, machine_of, bond, weight, (0, 0))

    def test_weights_whose_shares_are_not_all_one_number(self):
        random = Random(2)
        many = 0
        for bond in list(small_bonds(3))[::3] + some_bonds(71, 30, 4):
            for _ in range(6):
                weight = tuple(random.randrange(3) for _ in bond[2])
                right = sum(weight) > 0 and all(len(set(row)) == 1 for row in shares(bond, weight))
                start = bond[2][weight.index(max(weight))]
                if right:
                    self.told(machine_by_words(bond, weight, start), machine_of(bond, weight, start))
                    many += 1
                else:
                    self.raised(Refused, "value", weight, machine_of, bond, weight, start)
                    self.raised(Refused, "value", weight, machine_of, bond, weight, None)
        self.assertGreater(many, 10)
        # Like shares of one side are not enough.
        self.raised(Refused, "value", (2, 1, 1, 1), machine_of, VIEW, (2, 1, 1, 1), (0, 0))
        self.raised(Refused, "value", (1, 1, 1, 1), machine_of, VIEW, (1, 1, 1, 1), (0, 0))


class BackToWeights(Checks, unittest.TestCase):
    def test_weight_of(self):
        for machine in mixed_machines():
            bond = shown_bond(machine[1])
            kinds = [machine[1][lot[0]] for lot in classes_by_words(machine)]
            self.told(tuple(kinds.count(pair) for pair in bond[2]), weight_of(bond, machine))
            wider = full(bond[0], bond[1])
            self.told(tuple(kinds.count(pair) for pair in wider[2]), weight_of(wider, machine))

    def test_of_machines_that_lose_nothing(self):
        for machine in lossless_machines(21, 120) + [machine for machine in mixed_machines() if is_lossless(machine)]:
            bond = shown_bond(machine[1])
            weight = weight_of(bond, machine)
            start = machine[1][machine[0]]
            self.assertTrue(all(len(set(row)) == 1 for row in shares(bond, weight)))
            self.assertGreater(weight[bond[2].index(start)], 0)
            self.assertEqual(sum(weight) % lcm(bond[0], bond[1]), 0)
            self.assertTrue(is_even(bond))
            self.assertFalse(crosses(bond, start))

    def test_back_and_forth(self):
        # What comes of a weight has one class for each situation that can come at most.
        self.told((1, 0, 0, 1), weight_of(full(2, 2), machine_of(full(2, 2), (2, 0, 0, 2), (0, 0))))
        self.told((2, 1, 1, 2), weight_of(VIEW, machine_of(VIEW, (2, 1, 1, 2), (0, 1))))
        for bond in even_bonds():
            for start in bond[2]:
                machine = least_machine(bond, start)
                if machine is not None:
                    self.told(balanced(bond, start), weight_of(bond, machine))


class Least(Checks, unittest.TestCase):
    def test_least_machine(self):
        seen = {True: 0, False: 0}
        for bond in list(small_bonds(3)) + even_bonds()[-60:] + some_bonds(73, 40):
            for start in bond[2]:
                found = least_machine(bond, start)
                there = is_even(bond) and not crosses(bond, start)
                seen[there] += 1
                if not there:
                    self.told(None, found)
                    continue
                self.told(machine_by_words(bond, balanced(bond, start), start), found)
                self.assertEqual((len(found[1]), found[1][found[0]]), (lcm(bond[0], bond[1]), start))
                self.told(True, is_forgetful(found))
                if shown_bond(found[1])[:2] == bond[:2]:
                    self.told(True, is_least(found))
        self.assertGreater(min(seen.values()), 100)

    def test_is_least(self):
        seen = {True: 0, False: 0}
        for machine in list(mixed_machines()) + lossless_machines(22, 60):
            bond = shown_bond(machine[1])
            expected = loss(machine) is None and len(classes_by_words(machine)) == lcm(bond[0], bond[1])
            self.told(expected, is_least(machine))
            seen[expected] += 1
        self.assertGreater(min(seen.values()), 50)
        self.told(True, is_least((0, ((0, 0),), (((0,), (0,)),))))
        # It loses nothing, but has more.
        self.told(False, is_least(machine_of(full(2, 2), (1, 1, 1, 1), (0, 0))))
        self.assertEqual(len(classes(machine_of(full(2, 2), (1, 1, 1, 1), (0, 0)))), 4)
        # It has just so many, but loses.
        self.told(False, is_least((0, ((0, 0), (0, 1)), (((1,), (0, 1)), ((0,), (0, 1))))))

    def test_no_machine_of_fewer_loses_nothing(self):
        for bond in [bond for m in (1, 2) for n in (1, 2, 3) for bond in bonds_of(m, n)]:
            for many in (1, 2, 3):
                if len(bond[2]) > 4 and many == 3:
                    continue
                for machine in all_machines(bond, many):
                    if shown_bond(machine[1])[:2] == bond[:2] and is_lossless(machine):
                        self.assertTrue(is_even(bond) and not crosses(bond, machine[1][machine[0]]))
                        self.assertEqual(len(classes(machine)) % lcm(bond[0], bond[1]), 0)


class Orbits(Checks, unittest.TestCase):
    def forgetful(self):
        random = Random(5)
        found = [made_least(machine) for machine in lossless_machines(23, 60) if is_forgetful(machine)]
        for bond in even_bonds()[::9]:
            found.append(lossless_machine(random, bond, some_weight(random, bond, 2), True))
        return found + [machine for machine in lossless_machines(24, 60) if is_forgetful(machine)]

    def test_orbits(self):
        for machine in self.forgetful():
            bond, found = shown_bond(machine[1]), classes_by_words(machine)

            def place(x):
                return next(at for at, lot in enumerate(found) if x in lot)
            for side in (0, 1):
                expected = tuple(tuple(place(step(machine, lot[0], (side, filling))) for filling in range(bond[side]))
                                 for lot in found if machine[1][lot[0]][side] == 0)
                self.told(expected, orbits(machine, side))
                # They part the classes: each stands in one, at the filling that it shows.
                self.assertEqual(sorted(at for row in expected for at in row), list(range(len(found))))
                for row in expected:
                    self.assertEqual([machine[1][found[at][0]][side] for at in row], list(range(bond[side])))
                for filling in range(bond[side]):
                    self.told(tuple(row[filling] for row in expected), onto(machine, side, 0, filling))

    def test_each_is_woven_of_its_orbits(self):
        for machine in self.forgetful():
            bond, found = shown_bond(machine[1]), classes(machine)
            kinds = tuple(machine[1][lot[0]] for lot in found)
            start = next(at for at, lot in enumerate(found) if machine[0] in lot)
            self.told(None, apart(machine, woven(bond, kinds, start, orbits(machine, 0), orbits(machine, 1))))

    def test_machines_that_lose_or_keep(self):
        many = 0
        for machine in list(mixed_machines()) + lossless_machines(25, 40):
            if not (is_lossless(machine) and is_forgetful(machine)):
                for side in (0, 1):
                    self.raised(Refused, "value", machine, orbits, machine, side)
                many += is_lossless(machine) + is_forgetful(machine)
                self.raised(Refused, "value", True, orbits, machine, True)
        self.assertGreater(many, 20)


def some_rows(random, kinds, side, many):
    lots = [[x for x, kind in enumerate(kinds) if kind[side] == filling] for filling in range(many)]
    for lot in lots:
        random.shuffle(lot)
    return tuple(zip(*lots))


class Woven(Checks, unittest.TestCase):
    def test_woven(self):
        random = Random(6)
        for bond in even_bonds()[::3]:
            weight = some_weight(random, bond, random.randint(1, 2))
            kinds = [pair for pair, many in zip(bond[2], weight) for _ in range(many)]
            random.shuffle(kinds)
            kinds, start = tuple(kinds), random.randrange(len(kinds))
            rows, columns = some_rows(random, kinds, 0, bond[0]), some_rows(random, kinds, 1, bond[1])
            machine = woven(bond, kinds, start, rows, columns)
            moves = tuple((next(row for row in rows if x in row), next(row for row in columns if x in row)) for x in range(len(kinds)))
            self.told((start, kinds, moves), machine)
            self.told(machine, check_machine(bond, machine))
            self.told(True, is_lossless(machine))
            self.told(True, is_forgetful(machine))
            self.told(machine, woven(listed(bond), listed(kinds), start, listed(rows), listed(columns)))

    def test_four_hundred(self):
        random = Random(7)
        kinds = tuple(random.sample(((0, 0),) * 200 + ((1, 1),) * 200, 400))
        rows, columns = some_rows(random, kinds, 0, 2), some_rows(random, kinds, 1, 2)
        machine = woven(full(2, 2), kinds, 399, rows, columns)
        self.assertEqual((machine[0], machine[1]), (399, kinds))
        self.assertTrue(all(row in machine[2][row[0]] for row in rows))
        self.raised(BadMachine, "at", 1, woven, full(1, 1), ((0, 0),) * 401, 0, (), ())
        one = woven(full(1, 1), ((0, 0),) * 400, 7, tuple((x,) for x in range(400)), tuple((x,) for x in range(400)))
        self.assertEqual(one[2][9], ((9,), (9,)))
        self.assertEqual(come(one), (7,))

    def test_no_kinds_no_start(self):
        rows, columns = ((0, 1),), ((0,), (1,))
        bond, kinds = (2, 1, ((0, 0), (1, 0))), ((0, 0), (1, 0))
        self.told((0, kinds, (((0, 1), (0,)), ((0, 1), (1,)))), woven(bond, kinds, 0, rows, columns))
        for value in any_values():
            self.raised(BadMachine, "at", 1, woven, bond, value, 0, rows, columns)
            self.raised(BadMachine, "at", 1, woven, bond, (*kinds, value), None, None, None)
            if not (same(value, 0) or same(value, 1)):
                self.raised(BadMachine, "at", 0, woven, bond, kinds, value, rows, columns)
                self.raised(BadMachine, "at", 0, woven, bond, kinds, value, None, None)
        self.raised(BadMachine, "at", 0, woven, bond, kinds, 2, None, None)
        self.raised(BadMachine, "at", 1, woven, CORNER, ((0, 0), (1, 0)), 0, None, None)

    def test_no_rows(self):
        kinds = ((0, 0), (1, 1), (0, 1), (1, 0))
        bond, rows, columns = full(2, 2), ((0, 1), (2, 3)), ((0, 1), (3, 2))
        self.told((2, kinds, (((0, 1), (0, 1)), ((0, 1), (0, 1)), ((2, 3), (3, 2)), ((2, 3), (3, 2)))), woven(bond, kinds, 2, rows, columns))
        wrong = [((0, 1),), ((0, 1), (2, 3), (2, 3)), ((0, 1), (0, 3)), ((1, 0), (2, 3)), ((0, 1), (2,)), ((0, 1), (2, 3, 3)), ((0, 1), 2),
                 ((0, 1), "23"), ((0, True), (2, 3)), ((False, 1), (2, 3)), ((0, 1), (2, 4)), ((0, 1), (2, -1)), ((0, 1), (2, None)),
                 ((0, 1), (2, (3,))), ((0, 1), None), ((0, 1, 2, 3),), ((0,), (1,), (2,), (3,)), (), ((),), None, 3, "0123"]
        for value in wrong + any_values():
            self.raised(Refused, "value", value, woven, bond, kinds, 2, value, None)
            self.raised(Refused, "value", value, woven, bond, kinds, 2, rows, value)
        # Rows of the one side are none of the other, in whatever order right ones may stand.
        self.raised(Refused, "value", ((0, 3), (1, 2)), woven, bond, kinds, 2, ((2, 3), (0, 1)), ((0, 3), (1, 2)))
        self.assertEqual(woven(bond, kinds, 2, ((2, 3), (0, 1)), ((3, 1), (0, 2)))[2][1], ((0, 1), (3, 1)))


class Wrong(Checks, unittest.TestCase):
    def test_no_bonds(self):
        for value, at in NO_BONDS:
            for call, rest in ((machine_of, (None, None)), (weight_of, (None,)), (least_machine, (None,)), (woven, (None,) * 4)):
                self.raised(BadBond, "at", at, call, value, *rest)

    def test_no_machines(self):
        for value, at in NO_MACHINES:
            self.raised(BadMachine, "at", at, weight_of, EVEN, value)
            self.raised(BadMachine, "at", at, is_least, value)
            self.raised(BadMachine, "at", at, orbits, value, None)
        self.raised(BadMachine, "at", 1, weight_of, CORNER, RIGHT)
        for value in any_values():
            self.assertRaises(BadMachine, weight_of, EVEN, value)

    def test_no_weights(self):
        for value in any_values():
            if not isinstance(value, (list, tuple)) or len(value) != 3:
                self.raised(BadWeight, "at", -1, machine_of, EVEN, value, None)
            if not (type(value) is int and value >= 0):
                self.raised(BadWeight, "at", 1, machine_of, EVEN, (1, value, None), None)
        self.raised(BadWeight, "at", 0, machine_of, EVEN, (True, 0, 1), (0, 0))
        self.raised(BadWeight, "at", 2, machine_of, EVEN, (500, 0, -1), (0, 0))

    def test_no_starts(self):
        def right(value):
            return isinstance(value, (list, tuple)) and any(same(tuple(value), pair) for pair in EVEN[2])
        refuses(self, Refused, "value", machine_of, (EVEN, (1, 0, 1)), right)
        refuses(self, Refused, "value", least_machine, (EVEN,), right)
        self.raised(Refused, "value", (1, 0), machine_of, EVEN, (1, 0, 1), (1, 0))
        self.raised(Refused, "value", (0, 1), machine_of, EVEN, (1, 0, 1), (0, 1))
        self.raised(Refused, "value", None, least_machine, EVEN, None)
        self.told(None, least_machine(EVEN, [1, 0]))

    def test_no_sides(self):
        machine = least_machine(VIEW, (0, 1))
        refuses(self, Refused, "value", orbits, (machine,), lambda value: type(value) is int and value in (0, 1))
        self.raised(Refused, "value", 2, orbits, RIGHT, 2)
        self.raised(Refused, "value", RIGHT, orbits, RIGHT, 0)

    def test_names_and_lists(self):
        self.told((1, ((0, 0), (1, 1)), (((0, 1), (0, 1)), ((0, 1), (0, 1)))), machine_of(bond=CORNER, weight=[1, 0, 1], start=[1, 1]))
        least = least_machine(bond=VIEW, start=(0, 1))
        self.told((2, 1, 1, 2), weight_of(bond=VIEW, machine=least))
        self.told(True, is_least(machine=least))
        self.told(((0, 3), (1, 4), (2, 5)), orbits(machine=least, side=0))
        self.told(machine_of(full(1, 1), (1,), (0, 0)), woven(bond=full(1, 1), kinds=((0, 0),), start=0, rows=((0,),), columns=((0,),)))
        self.takes_lists(machine_of, VIEW, (2, 1, 1, 2), (0, 1))
        self.takes_lists(weight_of, VIEW, least)
        self.takes_lists(least_machine, VIEW, (0, 1))
        self.takes_lists(is_least, least)
        self.takes_lists(orbits, least, 1)
        for found in (machine_of(listed(VIEW), [2, 1, 1, 2], [0, 1]), least_machine(listed(VIEW), [0, 1]), orbits(listed(least), 1)):
            self.assertTrue(is_tuples(found))


if __name__ == "__main__":
    unittest.main()
