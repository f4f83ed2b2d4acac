"""Promises 27 and 28: classes of alike situations, runs that part, the least machine, machines that are apart."""

import unittest
from random import Random

from helpers import (
    EVEN, NO_MACHINES, RIGHT, Checks, all_machines, any_values, full, is_tuples, listed, refuses, runs, settings, some_machine,
    some_machines, step, walk,
)
from test_machines import ALL, first_runs, shown_bond
from setitback.alike import apart, are_alike, class_of, classes, made_least, parting
from setitback.errors import BadMachine, NoSituation, Refused
from setitback.machines import check_machine, come, come_by, seen, trimmed

FEW = ALL[::3] + some_machines(71, 120, 5)
TWINS = (1, ((0, 0), (0, 0), (1, 0)), (((1, 2), (1,)), ((0, 2), (0,)), ((0, 2), (2,))))


def parting_by_words(machine, x, y, bond, most):
    """The first run that shows unlike pairs behind two situations, by trying all up to so many settings."""
    for run in runs(bond, most):
        if machine[1][walk(machine, x, run)] != machine[1][walk(machine, y, run)]:
            return run
    return None


def alikeness(machine, bond):
    """By situation the set of situations that are alike to it: pairs are crossed out until no more go."""
    many = len(machine[1])
    alike = {(x, y) for x in range(many) for y in range(many) if machine[1][x] == machine[1][y]}
    while True:
        kept = {(x, y) for x, y in alike
                if all((step(machine, x, setting), step(machine, y, setting)) in alike for setting in settings(bond))}
        if kept == alike:
            return [frozenset(y for y in range(many) if (x, y) in alike) for x in range(many)]
        alike = kept


def doubled(random, machine):
    """A machine with each situation twice, led to either of two; not apart from the first one."""
    start, kinds, moves = machine
    many = len(kinds)
    places = list(range(2 * many))
    random.shuffle(places)
    shows, leads = [None] * (2 * many), [None] * (2 * many)
    for x in range(2 * many):
        shows[places[x]] = kinds[x % many]
        leads[places[x]] = tuple(tuple(places[found + many * random.randrange(2)] for found in row) for row in moves[x % many])
    return places[start], tuple(shows), tuple(leads)


class Alike(Checks, unittest.TestCase):
    def test_parting_is_the_first_run(self):
        lengths = {}
        for bond, machine in FEW:
            bond, many = shown_bond(machine[1]), len(machine[1])
            groups = alikeness(machine, bond)
            most = len(set(groups)) - len(set(machine[1]))
            for x in range(many):
                for y in range(many):
                    found = parting(machine, x, y)
                    self.assertEqual(found is None, y in groups[x])
                    self.told(found is None, are_alike(machine, x, y))
                    if found is not None:
                        # At most c - k settings: so trying all runs up to there is enough.
                        self.assertLessEqual(len(found), most)
                        self.told(parting_by_words(machine, x, y, bond, len(found)), found)
                        lengths[len(found)] = lengths.get(len(found), 0) + 1
        self.assertGreater(lengths[1], 50)
        self.assertGreater(lengths[2], 5)

    def test_no_run_up_to_the_number_of_situations_parts_alike_ones(self):
        for bond, machine in FEW[::4]:
            bond, many = shown_bond(machine[1]), len(machine[1])
            for x in range(many):
                for y in range(x):
                    if are_alike(machine, x, y):
                        self.told(None, parting_by_words(machine, x, y, bond, min(many, 4)))

    def test_classes(self):
        joined = 0
        for bond, machine in ALL + [(full(2, 1), TWINS)]:
            bond = shown_bond(machine[1])
            groups, coming = alikeness(machine, bond), come(machine)
            expected = sorted({tuple(sorted(groups[x] & set(coming))) for x in coming})
            found = classes(machine)
            self.told(tuple(expected), found)
            self.told(tuple(expected), classes(listed(machine)))
            joined += len(found) < len(coming)
            for x in range(len(machine[1])):
                place = next((at for at, lot in enumerate(expected) if x in lot), None)
                self.told(place, class_of(machine, x))
                self.assertEqual(place is None, x not in coming)
        self.assertGreater(joined, 50)

    def test_a_class_of_what_cannot_come(self):
        # Situation 1 cannot come, but is alike to 0, which can: it has no place.
        machine = (0, ((0, 0), (0, 0), (0, 1)), (((0,), (0, 2)), ((1,), (1, 2)), ((2,), (0, 2))))
        self.told(((0,), (2,)), classes(machine))
        self.told(None, class_of(machine, 1))
        self.told(1, class_of(machine, 2))
        self.told(True, are_alike(machine, 0, 1))


class Least(Checks, unittest.TestCase):
    def test_made_least(self):
        fewer = 0
        for bond, machine in ALL:
            bond = shown_bond(machine[1])
            less = made_least(machine)
            self.assertTrue(is_tuples(less))
            self.told(less, check_machine(bond, less))
            self.assertEqual((less[0], len(less[1])), (0, len(classes(machine))))
            fewer += len(less[1]) < len(machine[1])
            # Numbered in the order of first runs, shown and led as the classes are.
            self.told(less, trimmed(less))
            order = []
            for situation, _ in sorted(first_runs(machine, bond).items(), key=lambda item: (len(item[1]), item[1])):
                if class_of(machine, situation) not in order:
                    order.append(class_of(machine, situation))
            for situation in come(machine):
                place = order.index(class_of(machine, situation))
                self.told(machine[1][situation], less[1][place])
                for setting in settings(bond):
                    there = order.index(class_of(machine, step(machine, situation, setting)))
                    self.told(there, step(less, place, setting))
            self.told(None, apart(machine, less))
            self.told(None, apart(less, machine))
            self.told(less, made_least(less))
            self.told(less, made_least(trimmed(machine)))
        self.assertGreater(fewer, 100)

    def test_doubled_machines(self):
        random = Random(6)
        for bond, machine in ALL[::6]:
            twice = doubled(random, machine)
            self.told(None, apart(machine, twice))
            self.told(made_least(machine), made_least(twice))
            for x in come(twice):
                self.assertTrue(are_alike(twice, x, x))

    def test_apart_exactly_if_the_least_ones_are_unlike(self):
        for bond, many in ((full(1, 2), 2), (full(1, 2), 3), (EVEN, 3)):
            machines = list(all_machines(bond, many))
            machines = machines[::max(1, len(machines) // 60)]
            sizes = bond[:2]
            equal = 0
            for one in machines:
                for other in machines:
                    if shown_bond(one[1])[:2] != sizes or shown_bond(other[1])[:2] != sizes:
                        continue
                    found = apart(one, other)
                    self.assertEqual(found is None, made_least(one) == made_least(other))
                    if found is None:
                        equal += 1
                        continue
                    first = next(run for run in runs(bond, len(found)) if seen(one, run)[-1] != seen(other, run)[-1])
                    self.told(first, found)
            self.assertGreater(equal, 0)

    def test_no_machine_of_less_is_not_apart(self):
        # Either of two machines that are not apart has at least as many situations as the least one.
        smaller = [machine for many in (2, 3) for machine in all_machines(full(1, 2), many)]
        for machine in smaller[::131]:
            many = len(made_least(machine)[1])
            for other in smaller[::7]:
                if len(other[1]) < many:
                    self.assertIsNotNone(apart(machine, other))


class Limits(Checks, unittest.TestCase):
    def test_forty_situations(self):
        random = Random(7)
        for bond in (full(6, 6), full(2, 2), (6, 6, tuple((s, s) for s in range(6))), full(1, 2)):
            machine = some_machine(random, bond, 40)
            less = made_least(machine)
            self.told(None, apart(machine, less))
            groups = alikeness(machine, bond)
            self.assertEqual(len(classes(machine)), len({groups[x] for x in come(machine)}))
            for x, y in ((0, 1), (39, 0), (17, 23)):
                self.assertEqual(parting(machine, x, y) is None, y in groups[x])

    def test_a_long_run_parts(self):
        # All show (0, 0) until the last but one, which alone is led on to (0, 1) by the same setting.
        kinds = ((0, 0),) * 39 + ((0, 1),)
        moves = tuple(((at + 1 if at < 38 else 38,), (0, 39)) for at in range(38)) + (((38,), (38, 39)), ((39,), (0, 39)))
        machine = (0, kinds, moves)
        self.told(None, parting(machine, 0, 0))
        self.told(None, parting(machine, 0, 1))
        # A counter: pairs show how many settings of side 0 are left.
        kinds = ((0, 0),) * 39 + ((0, 1),)
        moves = tuple(((at + 1,), (0, 39)) for at in range(39)) + (((39,), (0, 39)),)
        counter = (0, kinds, moves)
        self.told(((0, 0),) * 38, parting(counter, 0, 1))
        self.told(((0, 0),) * 1, parting(counter, 37, 38))
        self.told(40, len(classes(counter)))
        self.told(None, apart(counter, made_least(counter)))


class Wrong(Checks, unittest.TestCase):
    def test_no_machines(self):
        for call, rest in ((classes, ()), (class_of, (None,)), (parting, (None, None)), (are_alike, (None, None)), (made_least, ())):
            for value, at in NO_MACHINES:
                self.raised(BadMachine, "at", at, call, value, *rest)
            for value in any_values():
                self.assertRaises(BadMachine, call, value, *rest)
        for value, at in NO_MACHINES:
            self.raised(BadMachine, "at", at, apart, value, None)
            self.raised(BadMachine, "at", at, apart, RIGHT, value)
            self.raised(BadMachine, "at", at, apart, TWINS, value)

    def test_no_situations(self):
        def right(value):
            return type(value) is int and value in (0, 1, 2)
        refuses(self, NoSituation, "value", class_of, (RIGHT,), right)
        for call in (parting, are_alike):
            refuses(self, NoSituation, "value", call, (RIGHT,), right, (None,))
            refuses(self, NoSituation, "value", call, (RIGHT,), right, (0,))
            refuses(self, NoSituation, "value", call, (RIGHT, 2), right)
            self.raised(NoSituation, "value", 3, call, RIGHT, 3, 4)

    def test_other_sizes(self):
        bonds = (full(1, 1), full(1, 2), full(2, 1), EVEN, full(2, 3), full(3, 2))
        random = Random(3)
        machines = [some_machine(random, bond, 6) for bond in bonds]
        for bond, machine in zip(bonds, machines):
            for facing, other in zip(bonds, machines):
                if bond[:2] == facing[:2]:
                    self.told(None, apart(machine, other))
                else:
                    self.raised(Refused, "value", other, apart, machine, other)
        # The same numbers of fillings are enough: the bonds may be others.
        steady = (0, ((0, 0), (1, 1)), (((0, 1), (0, 1)),) * 2)
        self.told(((0, 1),), apart(RIGHT, steady))

    def test_names_and_lists(self):
        self.told(((0, 1), (2,)), classes(machine=TWINS))
        self.told(0, class_of(machine=TWINS, situation=1))
        self.told((), parting(machine=TWINS, x=0, y=2))
        self.told(True, are_alike(machine=TWINS, x=0, y=1))
        self.told(None, apart(machine=TWINS, other=made_least(machine=TWINS)))
        for bond, machine in ALL[::25]:
            for call in (classes, made_least):
                self.takes_lists(call, machine)
            self.takes_lists(parting, machine, 0, 1)
            self.takes_lists(class_of, machine, 1)
            self.takes_lists(apart, machine, machine)
            found = parting(listed(machine), 0, len(machine[1]) - 1)
            self.assertTrue(found is None or is_tuples(found))
        self.told(((0, 1),), come_by(RIGHT, 2))


if __name__ == "__main__":
    unittest.main()
