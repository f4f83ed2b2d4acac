"""Promises 47 to 50: balls, what is due, losses that are found by counting, and how many settings they take."""

import unittest
from math import ceil, lcm
from random import Random

from helpers import (
    DESK, EVEN, NO_MACHINES, RIGHT, VIEW, Checks, best, fitting, full, is_even, is_tuples, listed, lots, refuses, same, settings,
    small_bonds, some_bonds, some_machine, step, uneven_bonds, walk, worth,
)
from lossless_words import classes_by_words, crosses, depths, loss_by_words, lost_there, mixed_machines
from test_alike import alikeness
from test_bonds import NO_BONDS
from test_machines import shown_bond
from setitback.alike import parting
from setitback.balls import counted, due, judged, levels, narrow, narrow_number, told_number
from setitback.errors import BadBond, BadMachine, Refused
from setitback.growing import Growing
from setitback.lossless import loss

CORNER = (2, 2, ((0, 0), (0, 1), (1, 1)))
UNEVEN = [bond for bond in small_bonds(3) if not is_even(bond)] + uneven_bonds(101, 60)


def uneven_machines():
    random = Random(12)
    bonds = [bond for bond in UNEVEN if len(bond[2]) <= 12]
    return [some_machine(random, bond, random.randint(len(bond[2]), 14)) for bond in bonds for _ in range(3)] + [
        careful(random, bond, random.randint(8, 40)) for bond in bonds for _ in range(3)]


def careful(random, bond, many):
    """A machine that loses late: settings keep the rank among what shows the filling, as far as there are so many."""
    growing = Growing(bond, bond[2][0])
    # The first situations of the growing machine in the order in which settings meet them.
    met, row = {0: 0}, [0]
    for x in row:
        for setting in settings(bond):
            found = growing.put(x, setting)
            if found not in met and len(met) < max(many, 7):
                met[found] = len(met)
                row.append(found)
    kinds = [growing.shown(x) for x in met]
    kinds += [pair for pair in bond[2] if pair not in kinds]
    having = {setting: [x for x, kind in enumerate(kinds) if kind[setting[0]] == setting[1]] for setting in settings(bond)}
    moves = []
    for x in list(met) + [None] * (len(kinds) - len(met)):
        rows = []
        for side in (0, 1):
            row = []
            for filling in range(bond[side]):
                found = None if x is None else met.get(growing.put(x, (side, filling)))
                row.append(random.choice(having[side, filling]) if found is None else found)
            rows.append(tuple(row))
        moves.append(tuple(rows))
    return 0, tuple(kinds), tuple(moves)


MACHINES = uneven_machines()


def counted_by_words(machine, many):
    depth, rows = depths(machine), []
    for most in range(many + 1):
        met = [lot for lot in classes_by_words(machine) if any(depth[x] <= most for x in lot)]
        kinds = [machine[1][lot[0]] for lot in met]
        rows.append((len(met), *[max(sum(kind[side] == filling for kind in kinds) for filling in range(6)) for side in (0, 1)]))
    return tuple(rows)


def due_by_words(bond, start, many):
    p, q = best(bond, 0), best(bond, 1)
    bounded = p * q == 1 and not crosses(bond, start)
    rows = [(1, 1, 1)]
    for _ in range(many):
        a, r, c = rows[-1]
        most = max(bond[0] * r, bond[1] * c, a + 1)
        rows.append((min(most, lcm(bond[0], bond[1])) if bounded else most, max(r, ceil(q * c)), max(c, ceil(p * r))))
    return tuple(rows)


class Balls(Checks, unittest.TestCase):
    def test_counted(self):
        for machine in list(mixed_machines()[::2]) + MACHINES[::4]:
            for many in (0, 1, 3, 7):
                self.told(counted_by_words(machine, many), counted(machine, many))
        machine = MACHINES[-1]
        self.told(counted_by_words(machine, 40), counted(machine, 40))
        self.told(((1, 1, 1),), counted((0, ((0, 0),), (((0,), (0,)),)), 0))
        self.told(((1, 1, 1),) * 3, counted((0, ((0, 0),), (((0,), (0,)),)), 2))

    def test_a_class_counts_by_whichever_comes_first(self):
        twins = (0, ((0, 0), (0, 1), (0, 1)), (((0,), (0, 1)), ((2,), (0, 2)), ((2,), (0, 1))))
        self.told(((1, 1, 1), (2, 2, 1), (2, 2, 1)), counted(twins, 2))

    def test_due(self):
        for bond in list(small_bonds(3)) + some_bonds(103, 40) + UNEVEN[40::4]:
            for start in bond[2][::2]:
                self.told(due_by_words(bond, start, 12), due(bond, start, 12))
        self.told(due_by_words(DESK, (0, 0), 40), due(DESK, (0, 0), 40))
        self.told(((1, 1, 1),), due(EVEN, (1, 0), 0))

    def test_what_is_due_comes_until_something_is_lost(self):
        seen = {True: 0, False: 0}
        for machine in list(mixed_machines()) + MACHINES:
            bond, start = shown_bond(machine[1]), machine[1][machine[0]]
            lost = loss(machine)
            seen[lost is None] += 1
            many = 12 if lost is None else len(lost[0])
            for there, least in zip(counted(machine, many), due(bond, start, many)):
                self.assertTrue(all(much >= low for much, low in zip(there, least)))
        self.assertGreater(min(seen.values()), 100)

    def test_lots_of_what_is_due(self):
        for bond in UNEVEN[::3] + [EVEN, VIEW, CORNER]:
            rows = due(bond, bond[2][0], 10)
            for ahead, row in zip(rows, rows[1:]):
                for lot in lots(bond[0]):
                    self.assertGreaterEqual(len(fitting(bond, 0, lot)) * row[2], len(lot) * ahead[1])
                for lot in lots(bond[1]):
                    self.assertGreaterEqual(len(fitting(bond, 1, lot)) * row[1], len(lot) * ahead[2])


def greatest_lot(bond, side):
    return tuple(sorted({filling for lot in lots(bond[side]) if worth(bond, side, lot) == best(bond, side) for filling in lot}))


def lost_now(machine, run, sets, groups):
    """The least of some settings that is lost behind a run, with its parting run; None if none is."""
    x = walk(machine, machine[0], run)
    for side, filling in sets:
        y = step(machine, x, (side, filling))
        stood = machine[1][x][side]
        y = y if filling == stood else step(machine, y, (side, stood))
        if y not in groups[x]:
            return (side, filling), parting(machine, x, y)
    return None


def levels_by_words(machine):
    bond = shown_bond(machine[1])
    groups = alikeness(machine, bond)
    found = [((),)]
    while True:
        side = (len(found) - 1) % 2
        sets = [(side, filling) for filling in greatest_lot(bond, side)]
        lost = [(run, *lost_now(machine, run, sets, groups)) for run in found[-1] if lost_now(machine, run, sets, groups)]
        if lost:
            return tuple(found), min(lost)
        longer = [(*run, setting) for run in found[-1] for setting in sets]
        shows = [machine[1][walk(machine, machine[0], run)][1 - side] for run in longer]
        most = max(range(6), key=lambda filling: (shows.count(filling), -filling))
        found.append(tuple(run for run, filling in zip(longer, shows) if filling == most))


class Counting(Checks, unittest.TestCase):
    def test_levels_and_narrow(self):
        lengths = {}
        for machine in MACHINES:
            if is_even(shown_bond(machine[1])):
                continue
            expected, least = levels_by_words(machine)
            self.told(expected, levels(machine))
            self.told(least, narrow(machine))
            lengths[len(expected)] = lengths.get(len(expected), 0) + 1
            self.assertEqual([list(level) for level in expected], [sorted(set(level)) for level in expected])
        self.assertGreater(lengths[1], 20)
        self.assertGreater(lengths[2], 20)
        self.assertGreater(sum(lengths.values()) - lengths[1] - lengths[2], 20)
        self.assertGreater(max(lengths), 4)

    def test_what_is_lost_is_lost(self):
        for machine in MACHINES[::3]:
            run, setting, apart = narrow(machine)
            groups = alikeness(machine, shown_bond(machine[1]))
            self.told((setting, apart), lost_now(machine, run, [setting], groups))
            # Some setting is lost there; the least one need not be one of the lot.
            self.assertIsNotNone(lost_there(machine, walk(machine, machine[0], run), groups))

    def test_as_many_runs_as_told(self):
        for machine in MACHINES[::2]:
            bond = shown_bond(machine[1])
            many, count = len(classes_by_words(machine)), 1
            for at, level in enumerate(levels(machine)):
                self.assertGreaterEqual(len(level), count)
                self.assertGreaterEqual(count, (best(bond, 0) * best(bond, 1)) ** (at // 2))
                there = [walk(machine, machine[0], run) for run in level]
                groups = alikeness(machine, bond)
                self.assertEqual(len({groups[x] for x in there}), len(level))
                count = ceil(count * worth(bond, at % 2, greatest_lot(bond, at % 2)))
            self.assertLessEqual(len(levels(machine)) - 1, narrow_number(bond, many))

    def test_narrow_number(self):
        for bond in UNEVEN:
            told = [greatest_lot(bond, side) for side in (0, 1)]
            for many in (1, 2, 3, 7, 40, 10 ** 6, 10 ** 18):
                level, count = 0, 1
                while count * len(told[level % 2]) <= many:
                    count = ceil(count * worth(bond, level % 2, told[level % 2]))
                    level += 1
                self.told(level, narrow_number(bond, many))
        self.told(2, narrow_number((3, 2, ((0, 0), (1, 0), (2, 1))), 3))


class TooFew(Checks, unittest.TestCase):
    def test_told_number(self):
        none = 0
        for bond in list(small_bonds(3)) + some_bonds(105, 40) + UNEVEN[40::4]:
            for start in bond[2][::3]:
                rows = due_by_words(bond, start, 45)
                bounded = is_even(bond) and not crosses(bond, start)
                for many in (1, 2, 3, 5, 12, 29, 30, 40):
                    if bounded and lcm(bond[0], bond[1]) <= many:
                        expected = None
                        none += 1
                    else:
                        expected = max(at for at, row in enumerate(rows) if row[0] <= many)
                        self.assertLessEqual(expected, many - 1)
                    self.told(expected, told_number(bond, start, many))
        self.assertGreater(none, 100)

    def test_great_numbers(self):
        self.told(1999, told_number(CORNER, (0, 1), 2000))
        self.told(None, told_number(CORNER, (0, 0), 2))
        self.told(0, told_number(CORNER, (0, 0), 1))
        for bond in UNEVEN[::5]:
            product = best(bond, 0) * best(bond, 1)
            found = told_number(bond, bond[2][-1], 2000)
            rows = due_by_words(bond, bond[2][-1], found + 1)
            self.assertTrue(rows[found][0] <= 2000 < rows[found + 1][0])
            e = 0
            while product ** (e // 2) <= 2000:
                e += 1
            self.assertLess(found, e)

    def test_judged(self):
        seen = {True: 0, False: 0}
        for machine in list(mixed_machines()) + MACHINES[::2]:
            bond, start = shown_bond(machine[1]), machine[1][machine[0]]
            many, lost = len(classes_by_words(machine)), loss_by_words(machine)
            seen[lost is None] += 1
            if lost is None:
                self.told(("lossless", many), judged(machine))
            else:
                self.told(("loses", many, told_number(bond, start, many), lost), judged(machine))
        self.assertGreater(min(seen.values()), 100)

    def test_the_loss_comes_within_the_told_number(self):
        tight = 0
        for machine in list(mixed_machines()) + MACHINES:
            bond, start = shown_bond(machine[1]), machine[1][machine[0]]
            many = len(classes_by_words(machine))
            for most in (many, many + 3):
                told = told_number(bond, start, most)
                if told is not None:
                    self.assertLessEqual(len(loss(machine)[0]), told)
                    tight += len(loss(machine)[0]) == told
        self.assertGreater(tight, 20)


class Wrong(Checks, unittest.TestCase):
    def test_no_machines(self):
        for value, at in NO_MACHINES:
            for call, rest in ((counted, (None,)), (levels, ()), (narrow, ()), (judged, ())):
                self.raised(BadMachine, "at", at, call, value, *rest)
        for machine in (RIGHT, (0, ((0, 0),), (((0,), (0,)),))):
            self.raised(Refused, "value", machine, levels, machine)
            self.raised(Refused, "value", machine, narrow, machine)
            self.raised(Refused, "value", again := listed(machine), levels, again)

    def test_no_bonds(self):
        for value, at in NO_BONDS:
            for call, rest in ((due, (None, None)), (narrow_number, (None,)), (told_number, (None, None))):
                self.raised(BadBond, "at", at, call, value, *rest)
        for bond in (EVEN, full(2, 3), full(1, 1)):
            self.raised(Refused, "value", bond, narrow_number, bond, None)
            self.raised(Refused, "value", bond, narrow_number, bond, 5)

    def test_no_starts(self):
        def right(value):
            return isinstance(value, (list, tuple)) and any(same(tuple(value), pair) for pair in EVEN[2])
        refuses(self, Refused, "value", due, (EVEN,), right, (None,))
        refuses(self, Refused, "value", told_number, (EVEN,), right, (None,))
        self.raised(Refused, "value", (0, 1), due, EVEN, (0, 1), 3)

    def test_no_many(self):
        def number(value):
            return type(value) is int and value >= 0
        refuses(self, Refused, "value", counted, (RIGHT,), number)
        refuses(self, Refused, "value", due, (EVEN, (1, 0)), number)
        refuses(self, Refused, "value", told_number, (EVEN, (1, 0)), lambda value: number(value) and value > 0)
        refuses(self, Refused, "value", narrow_number, (DESK,), lambda value: number(value) and value > 0)
        self.raised(Refused, "value", 0, told_number, EVEN, (1, 0), 0)
        self.raised(Refused, "value", 0, narrow_number, DESK, 0)
        self.raised(Refused, "value", True, counted, RIGHT, True)

    def test_names_and_lists(self):
        desk = (3, 2, ((0, 0), (1, 0), (2, 1)))
        machine = (0, desk[2], (((0, 1, 2), (0, 2)), ((0, 1, 2), (1, 2)), ((0, 1, 2), (0, 2))))
        self.told(((1, 1, 1), (3, 1, 2), (3, 1, 2)), counted(machine=machine, many=2))
        self.told(((1, 1, 1), (3, 1, 2)), due(bond=desk, start=[0, 0], many=1))
        self.told((((),), (((0, 0),), ((0, 1),))), levels(machine=machine))
        self.told((((0, 1),), (1, 1), ()), narrow(machine=machine))
        self.told(2, narrow_number(bond=desk, many=3))
        self.told(4, told_number(bond=CORNER, start=(0, 1), many=5))
        self.told(("loses", 3, 1, (((0, 1),), (1, 1), ())), judged(machine=machine))
        for call, rest in ((counted, (4,)), (levels, ()), (narrow, ()), (judged, ())):
            self.takes_lists(call, machine, *rest)
            self.assertTrue(is_tuples(call(listed(machine), *rest)))
        self.takes_lists(due, desk, (0, 0), 5)
        self.takes_lists(told_number, desk, (0, 0), 5)
        self.takes_lists(narrow_number, desk, 5)


if __name__ == "__main__":
    unittest.main()
