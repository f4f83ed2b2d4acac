"""Promises 24, 25 and 26: settings and runs of a bond, machines, where settings lead."""

import unittest
from random import Random

from helpers import (
    DESK, EVEN, KINDS, MOVES, NO_MACHINES, RIGHT, VIEW, Checks, all_machines, any_values, full, is_tuples, listed,
    refuses, runs, same, settings, small_bonds, some_bonds, some_machine, some_machines, walk,
)
from test_bonds import NO_BONDS
from setitback.errors import BadBond, BadMachine, NoSituation, Refused
from setitback.machines import (
    bond_of, check_machine, come, come_by, led, need_run, need_setting, put, seen, settings_of, shown, trimmed,
)

BONDS = list(small_bonds(3)) + some_bonds(61, 40)
# Machines with the bond that their situations show; some situations cannot come in many of them.
ALL = [(full(1, 2), machine) for machine in all_machines(full(1, 2), 2)]
ALL += [(EVEN, machine) for machine in all_machines((2, 2, ((0, 0), (1, 1))), 2)][::3]
ALL += [(full(1, 2), machine) for machine in all_machines(full(1, 2), 3)][::29]
ALL += some_machines(63, 250)


def shown_bond(kinds):
    return 1 + max(s for s, _ in kinds), 1 + max(t for _, t in kinds), tuple(sorted(set(kinds)))


def first_runs(machine, bond):
    """By situation its first run, found by trying all runs, shorter ones first, then ascending."""
    found = {}
    for run in runs(bond, len(machine[1]) - 1):
        found.setdefault(walk(machine, machine[0], run), run)
    return found


class Settings(Checks, unittest.TestCase):
    def test_settings_of_a_bond(self):
        for bond in BONDS + [full(6, 6), full(1, 6)]:
            every = settings(bond)
            self.told(tuple(every), settings_of(bond))
            self.told(tuple(every), need_run(bond, every))
            self.told(tuple(every), need_run(bond, listed(every)))
            for side in range(-1, 4):
                for filling in range(-1, 8):
                    value = (side, filling)
                    if value in every:
                        self.told(value, need_setting(bond, value))
                        self.told(value, need_setting(bond, [side, filling]))
                    else:
                        self.raised(Refused, "value", value, need_setting, bond, value)
                        self.raised(Refused, "value", value, need_run, bond, [every[0], value, (9, 9)])

    def test_no_settings(self):
        def right(value):
            return isinstance(value, (list, tuple)) and any(same(tuple(value), setting) for setting in settings(VIEW))
        refuses(self, Refused, "value", need_setting, (VIEW,), right)
        for value in any_values():
            if not right(value):
                self.raised(Refused, "value", value, need_run, VIEW, (value,))
                self.raised(Refused, "value", value, need_run, VIEW, [(0, 1), [1, 2], value, None])
            if not isinstance(value, (list, tuple)):
                self.raised(Refused, "value", value, need_run, VIEW, value)
        self.told((), need_run(VIEW, []))
        self.told(((0, 1),) * 60, need_run(VIEW, [[0, 1]] * 60))
        self.raised(Refused, "value", 0, need_run, VIEW, (0, 0))

    def test_no_bonds(self):
        for value, at in NO_BONDS:
            self.raised(BadBond, "at", at, need_setting, value, None)
            self.raised(BadBond, "at", at, need_run, value, None)
            self.raised(BadBond, "at", at, settings_of, value)
            self.raised(BadBond, "at", at, check_machine, value, None)

    def test_names(self):
        self.told((0, 1), need_setting(bond=VIEW, value=[0, 1]))
        self.told(((0, 1),), need_run(bond=VIEW, run=[[0, 1]]))
        self.told(((0, 0), (1, 0)), settings_of(bond=full(1, 1)))
        self.takes_lists(settings_of, VIEW)
        self.takes_lists(need_run, VIEW, ((0, 1), (1, 2)))


class Machines(Checks, unittest.TestCase):
    def test_right_machines(self):
        for bond, machine in ALL:
            self.told(machine, check_machine(bond, machine))
            self.told(machine, check_machine(listed(bond), listed(machine)))
            self.told(shown_bond(machine[1]), bond_of(machine))
            self.told(shown_bond(machine[1]), bond_of(listed(machine)))

    def test_machines_that_show_less_than_the_bond(self):
        steady = (0, ((0, 0), (1, 1)), (((0, 1), (0, 1)),) * 2)
        self.told(steady, check_machine(full(2, 2), steady))
        self.told((2, 2, ((0, 0), (1, 1))), bond_of(steady))
        self.raised(BadMachine, "at", 1, check_machine, (2, 2, ((0, 1), (1, 0))), steady)
        # Not each filling of this bond can be shown.
        self.raised(BadMachine, "at", 2, check_machine, (2, 3, ((0, 0), (1, 1), (1, 2))), steady)

    def test_all_moves(self):
        # Of all moves of two situations, just those that show the filling that is set are right.
        kinds = ((0, 0), (0, 1))
        right = {machine[2] for machine in all_machines(full(1, 2), 2) if machine[1] == kinds}
        for flat in range(64):
            found = [flat >> at & 1 for at in range(6)]
            moves = (((found[0],), (found[1], found[2])), ((found[3],), (found[4], found[5])))
            if moves in right:
                self.told((1, kinds, moves), check_machine(full(1, 2), (1, kinds, moves)))
            else:
                self.raised(BadMachine, "at", 2, check_machine, full(1, 2), (1, kinds, moves))
        self.assertEqual(len(right), 4)

    def test_no_machines_of_a_bond(self):
        self.told(RIGHT, check_machine(EVEN, RIGHT))
        for value, at in NO_MACHINES:
            self.raised(BadMachine, "at", at, check_machine, EVEN, value)
            self.raised(BadMachine, "at", at, check_machine, listed(EVEN), listed(value))
        for pair in ((0, 1), (2, 0), (0, 2)):
            self.raised(BadMachine, "at", 1, check_machine, EVEN, (None, (*KINDS[:2], pair), MOVES))

    def test_no_machines_without_a_bond(self):
        more = [((None, ((0, 0), (2, 0)), None), 1), ((0, ((1, 0),), (((0,), (0,)),)), 1), ((0, ((0, 1),), (((0,), (0,)),)), 1),
                ((0, ((0, 0), (1, 5)), None), 1), ((0, ((0, 0), (0, 10 ** 30)), None), 1)]
        calls = [(bond_of, ()), (shown, (None,)), (put, (None, None)), (led, (None, None)), (seen, (None,)), (come, ()), (come_by, (None,)),
                 (trimmed, ())]
        for call, rest in calls:
            for value, at in NO_MACHINES + more:
                self.raised(BadMachine, "at", at, call, value, *rest)
            for value in any_values():
                self.assertRaises(BadMachine, call, value, *rest)

    def test_four_hundred_situations(self):
        random = Random(8)
        for bond in (full(6, 6), full(2, 3), (6, 6, tuple((s, s) for s in range(6)))):
            machine = some_machine(random, bond, 400)
            self.told(machine, check_machine(bond, machine))
            self.told(bond, bond_of(machine))
        start, kinds, moves = some_machine(random, full(2, 2), 401)
        self.raised(BadMachine, "at", 1, check_machine, full(2, 2), (start, kinds, moves))
        self.raised(BadMachine, "at", 1, bond_of, (start, kinds, moves))


class Leading(Checks, unittest.TestCase):
    def test_shown_put_led_seen(self):
        for bond, machine in ALL[::2]:
            for situation in range(len(machine[1])):
                self.told(machine[1][situation], shown(machine, situation))
                for setting in settings(machine_bond := shown_bond(machine[1])):
                    found = machine[2][situation][setting[0]][setting[1]]
                    self.told(found, put(machine, situation, setting))
                    self.told(found, put(listed(machine), situation, list(setting)))
                    # The next situation shows the filling that is set.
                    self.assertEqual(machine[1][found][setting[0]], setting[1])
                for run in list(runs(machine_bond, 2))[::3]:
                    self.told(walk(machine, situation, run), led(machine, situation, run))
            for run in list(runs(machine_bond, 3))[::7]:
                pairs = tuple(machine[1][walk(machine, machine[0], run[:k])] for k in range(len(run) + 1))
                self.told(pairs, seen(machine, run))
                self.told(pairs, seen(listed(machine), listed(run)))

    def test_come_and_first_runs(self):
        short = 0
        for bond, machine in ALL:
            found = first_runs(machine, shown_bond(machine[1]))
            self.told(tuple(sorted(found)), come(machine))
            short += len(found) < len(machine[1])
            for situation in range(len(machine[1])):
                self.told(found.get(situation), come_by(machine, situation))
        self.assertGreater(short, 25)

    def test_trimmed(self):
        for bond, machine in ALL:
            found = list(first_runs(machine, shown_bond(machine[1])).items())
            order = [situation for situation, _ in sorted(found, key=lambda item: (len(item[1]), item[1]))]
            moves = tuple(tuple(tuple(order.index(x) for x in row) for row in machine[2][situation]) for situation in order)
            expected = (0, tuple(machine[1][situation] for situation in order), moves)
            less = trimmed(machine)
            self.told(expected, less)
            self.told(less, check_machine(bond, less))
            self.told(less, trimmed(less))
            self.assertEqual(come(less), tuple(range(len(order))))

    def test_forty_situations_and_runs_of_sixty(self):
        random = Random(12)
        for bond in (full(6, 6), full(2, 2), DESK):
            machine = some_machine(random, bond, 40)
            run = tuple(random.choices(settings(bond), k=60))
            self.told(walk(machine, 39, run), led(machine, 39, run))
            self.assertEqual(len(seen(machine, run)), 61)
            for situation in come(machine):
                self.told(situation, led(machine, machine[0], come_by(machine, situation)))
        # A long way: each situation but the last is left by one setting alone.
        kinds = ((0, 0), (0, 1)) * 20
        moves = tuple(((0,), (0, at + 1) if at % 2 == 0 else (min(at + 1, 38), 1)) for at in range(40))
        chain = (0, kinds, moves)
        self.told(tuple((1, (at + 1) % 2) for at in range(39)), come_by(chain, 39))
        self.told(tuple(kinds[0:1]), trimmed(chain)[1][0:1])

    def test_no_situation(self):
        for call, rest in ((shown, ()), (put, ((0, 0),)), (put, (None,)), (led, ((),)), (led, (None,)), (come_by, ())):
            refuses(self, NoSituation, "value", call, (RIGHT,), lambda value: type(value) is int and value in (0, 1, 2), rest)
            self.raised(NoSituation, "value", 3, call, RIGHT, 3, *rest)
            self.raised(NoSituation, "value", True, call, RIGHT, True, *rest)

    def test_no_setting_no_run(self):
        def right(value):
            return isinstance(value, (list, tuple)) and any(same(tuple(value), setting) for setting in settings(EVEN))
        refuses(self, Refused, "value", put, (RIGHT, 1), right)
        for value in ((0, 2), (1, 2), (2, 0), (-1, 0), (True, 0), (0, False), (0,), (0, 0, 0)):
            self.raised(Refused, "value", value, put, RIGHT, 0, value)
            for call, ahead in ((led, (RIGHT, 2)), (seen, (RIGHT,))):
                self.raised(Refused, "value", value, call, *ahead, [(0, 1), value, None])
        for value in any_values():
            if not isinstance(value, (list, tuple)):
                self.raised(Refused, "value", value, led, RIGHT, 0, value)
                self.raised(Refused, "value", value, seen, RIGHT, value)
            if not right(value):
                self.raised(Refused, "value", value, led, RIGHT, 0, (value,))
                self.raised(Refused, "value", value, seen, RIGHT, ((1, 1), value))

    def test_names_and_lists(self):
        self.told(RIGHT, check_machine(bond=EVEN, value=listed(RIGHT)))
        self.told(EVEN, bond_of(machine=RIGHT))
        self.told((1, 1), shown(machine=RIGHT, situation=1))
        self.told(2, put(machine=RIGHT, situation=1, setting=[1, 0]))
        self.told(1, led(machine=RIGHT, situation=0, run=[[0, 1], [1, 1]]))
        self.told(((0, 0), (1, 0), (1, 1)), seen(machine=RIGHT, run=[[0, 1], [1, 1]]))
        self.told((0, 1, 2), come(machine=RIGHT))
        self.told(((0, 1),), come_by(machine=RIGHT, situation=2))
        self.told(((0, 0), (1, 0), (1, 1)), trimmed(machine=RIGHT)[1])
        for bond, machine in ALL[::25]:
            self.takes_lists(check_machine, bond, machine)
            for call in (bond_of, come, trimmed):
                self.takes_lists(call, machine)
                self.assertTrue(is_tuples(call(listed(machine))))
            self.takes_lists(seen, machine, ((1, 0), (0, 0)))
            self.takes_lists(led, machine, 0, ((1, 0), (0, 0)))
        refuses(self, NoSituation, "value", come_by, (trimmed(RIGHT),), lambda value: type(value) is int and 0 <= value < 3)
        refuses(self, NoSituation, "value", shown, ((0, ((0, 0),), (((0,), (0,)),)),), lambda value: same(value, 0))


if __name__ == "__main__":
    unittest.main()
