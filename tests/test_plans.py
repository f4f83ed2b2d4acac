"""Promises 59 and 63: plans of two and three forms, their weights and shares, and machines out of balanced ones."""

import unittest
from itertools import product
from random import Random

from helpers import Checks, any_values, is_tuples, listed, refuses, same, small_bonds, some_bonds
from lossless_words import even_bonds
from plan_words import CUBE, DESK, EVEN, ONE, RING, is_balanced, shares, some_plans, three_forms, two_forms
from test_bonds import NO_BONDS
from setitback.errors import BadBond, BadWeight, Refused
from setitback.finite import machine_of
from setitback.many import bound_holds, bound_paper, least_step, plan_holds, plan_machine, plan_of, plan_paper
from setitback.plans import check_plan, plan_shares
from setitback.weights import balanced

ROWS = ((0, 0), (1, 0), (1, 1))
NO_PLANS = [
    ((2, 2),), ((2, 2), ROWS, ()), ((2,), ((0,), (1,))), ((2, 2, 2, 2), ((0,) * 4, (1,) * 4)), ((), ()), ((1, 1), ()),
    ((0, 1), ()), ((4, 1), ((0, 0), (1, 0), (2, 0), (3, 0))), ((2, -1), ROWS), ((True, 1), ((0, 0),)), ((1, True), ((0, 0),)),
    (None, ROWS), (2, ROWS), ("22", ROWS), ((2, "2"), ROWS), ((2, None), ROWS), ((2, (2,)), ROWS), ((2, 2), None), ((2, 2), 3),
    ((2, 2), "01"), ((2, 2), ((0, 0), (1, 0))), ((2, 2), ((0, 0), (0, 1))), ((2, 2), ((0, 0), (1, 1), (1, 1))),
    ((2, 2), ((1, 0), (0, 0), (1, 1))), ((2, 2), ((0, 0), (1, 1), (1, 0))), ((2, 2), ((0, 0), (1, 2), (1, 1))),
    ((2, 2), ((0, 0), (1, 2))), ((2, 2), ((-1, 0), (0, 0), (1, 1))), ((2, 2), ((0, 0), (1, 1), (2, 1))),
    ((2, 2), ((0, 0), (1, True))), ((2, 2), ((False, 0), (1, 1))), ((2, 2), ((0, 0), (1,))), ((2, 2), ((0, 0), (1, 1, 1))),
    ((2, 2), ((0, 0, 0), (1, 1, 1))), ((2, 2, 2), ((0, 0), (1, 1))), ((2, 2, 2), ((0, 0, 0), (1, 1, 0))), ((2, 2), ((0, 0), "11")),
    ((2, 2), ((0, 0), None)), ((2, 2), ((0, 0), 3)), ((2, 2), ((0, "0"), (1, 1))), ((2, 2), ((0, 0), (1, (1,)))), (ROWS, (2, 2)),
    ((3, 3), tuple((s, s) for s in range(4))), (2, 2, ROWS), ((10 ** 30, 1), ((0, 0),)),
]


class Plans(Checks, unittest.TestCase):
    def test_right_ones(self):
        self.assertGreater(len(two_forms()), 300)
        self.assertGreater(len(three_forms()), 120)
        for plan in two_forms() + three_forms():
            self.told(plan, check_plan(plan))
            self.told(plan, check_plan(listed(plan)))
            self.told(plan, check_plan([plan[0], listed(plan[1])]))
            self.assertTrue(is_tuples(check_plan(listed(plan))))

    def test_each_row_is_needed_or_not(self):
        # Without one of its rows a plan is one still just if each filling is in another row.
        for plan in some_plans():
            for at, row in enumerate(plan[1]):
                fewer = (plan[0], plan[1][:at] + plan[1][at + 1:])
                if all(any(other[form] == filling for other in fewer[1]) for form, filling in enumerate(row)):
                    self.told(fewer, check_plan(fewer))
                else:
                    self.raised(Refused, "value", fewer, check_plan, fewer)

    def test_wrong_ones(self):
        calls = [(check_plan, ()), (plan_shares, (None,)), (plan_paper, (None,)), (plan_holds, (None, None)), (bound_paper, (None,)),
                 (bound_holds, (None, None)), (least_step, (None,)), (plan_machine, (None, None))]
        for call, rest in calls:
            for value in NO_PLANS + [listed(value) for value in NO_PLANS] + any_values():
                self.raised(Refused, "value", value, call, value, *rest)

    def test_plan_of(self):
        for bond in small_bonds(3):
            self.told((bond[:2], bond[2]), plan_of(bond))
            self.told((bond[:2], bond[2]), plan_of(listed(bond)))
        many = 0
        for bond in some_bonds(60, 80):
            if max(bond[:2]) > 3:
                self.raised(Refused, "value", bond, plan_of, bond)
                value = listed(bond)
                self.raised(Refused, "value", value, plan_of, value)
                many += 1
        self.assertGreater(many, 20)
        self.raised(Refused, "value", (1, 4, ((0, 0), (0, 1), (0, 2), (0, 3))), plan_of, (1, 4, ((0, 0), (0, 1), (0, 2), (0, 3))))
        for value, at in NO_BONDS:
            self.raised(BadBond, "at", at, plan_of, value)


class Shares(Checks, unittest.TestCase):
    def test_plan_shares(self):
        random = Random(61)
        for plan in some_plans():
            for most in (1, 3, 10 ** 80):
                weight = tuple(random.randint(0, most) for _ in plan[1])
                expected = tuple(map(tuple, shares(plan, weight)))
                self.told(expected, plan_shares(plan, weight))
                self.told(expected, plan_shares(listed(plan), list(weight)))
        self.told(((0, 0, 0), (0, 0)), plan_shares(DESK, (0, 0, 0, 0)))
        self.told(((1, 2, 7), (6, 4)), plan_shares(plan=DESK, weight=[1, 2, 3, 4]))

    def test_no_weights(self):
        for call, rest in ((plan_shares, ()), (plan_machine, (None,))):
            for value in any_values():
                if not isinstance(value, (list, tuple)) or len(value) != 3:
                    self.raised(BadWeight, "at", -1, call, EVEN, value, *rest)
                if not (type(value) is int and value >= 0):
                    self.raised(BadWeight, "at", 0, call, EVEN, (value, None, None), *rest)
                    self.raised(BadWeight, "at", 1, call, EVEN, [1, value, None], *rest)
                    self.raised(BadWeight, "at", 2, call, EVEN, (0, 7, value), *rest)


def step(machine, x, form, filling):
    return machine[2][x][form][filling]


def machine_by_words(plan, weight, start):
    kinds = [row for row, many in zip(plan[1], weight) for _ in range(many)]
    having = [[[x for x, kind in enumerate(kinds) if kind[form] == filling] for filling in range(size)] for form, size in enumerate(plan[0])]
    moves = tuple(tuple(tuple(having[form][filling][having[form][kind[form]].index(x)] for filling in range(size))
                        for form, size in enumerate(plan[0])) for x, kind in enumerate(kinds))
    return kinds.index(start), tuple(kinds), moves


def some_weights(plan):
    """Balanced weights of a plan, as it has some: by the papers of its starts, and these added."""
    found = []
    for start in plan[1]:
        word, weight = plan_paper(plan, start)
        if word == "carried" and sum(weight) <= 30:
            found.append(weight)
    if len(found) > 1:
        found.append(tuple(map(sum, zip(*found[:3]))))
    return found


class Machines(Checks, unittest.TestCase):
    def test_plan_machine(self):
        many = 0
        for plan in some_plans():
            for weight in some_weights(plan):
                for at, start in enumerate(plan[1]):
                    if weight[at] == 0:
                        self.raised(Refused, "value", start, plan_machine, plan, weight, start)
                        continue
                    machine = plan_machine(plan, weight, start)
                    self.told(machine_by_words(plan, weight, start), machine)
                    self.told(machine, plan_machine(listed(plan), list(weight), list(start)))
                    many += 1
        self.assertGreater(many, 300)

    def test_loses_nothing_and_forgets(self):
        many = 0
        for plan in some_plans(2) + (CUBE, RING):
            for weight in some_weights(plan)[:3]:
                start = next(row for row, number in zip(plan[1], weight) if number)
                machine = plan_machine(plan, weight, start)
                self.assertEqual(machine[1][machine[0]], start)
                for x, kind in enumerate(machine[1]):
                    for form, size in enumerate(plan[0]):
                        self.assertEqual(step(machine, x, form, kind[form]), x)
                        for filling in range(size):
                            y = step(machine, x, form, filling)
                            self.assertEqual(machine[1][y][form], filling)
                            self.assertEqual(step(machine, y, form, kind[form]), x)
                            for other in range(size):
                                self.assertEqual(step(machine, y, form, other), step(machine, x, form, other))
                many += 1
        self.assertGreater(many, 60)

    def test_walked_back(self):
        random = Random(62)
        for plan in (EVEN, RING, CUBE):
            weight = some_weights(plan)[-1]
            start = next(row for row, number in zip(plan[1], weight) if number)
            machine = plan_machine(plan, weight, start)
            for _ in range(20):
                x, back = machine[0], []
                for _ in range(40):
                    form = random.randrange(len(plan[0]))
                    back.insert(0, (form, machine[1][x][form]))
                    x = step(machine, x, form, random.randrange(plan[0][form]))
                for form, filling in back:
                    x = step(machine, x, form, filling)
                self.assertEqual(x, machine[0])

    def test_sixty_situations_and_one(self):
        self.told((0, ((0, 0, 0),), (((0,), (0,), (0,)),)), plan_machine(ONE, (1,), (0, 0, 0)))
        machine = plan_machine(ONE, (60,), (0, 0, 0))
        self.told((0, ((0, 0, 0),) * 60, tuple(((x,), (x,), (x,)) for x in range(60))), machine)
        pairs = ((2, 2), tuple(product(range(2), repeat=2)))
        self.told(machine_by_words(pairs, (20, 10, 10, 20), (0, 1)), plan_machine(pairs, (20, 10, 10, 20), (0, 1)))

    def test_as_machines_of_bonds(self):
        for bond in [bond for bond in even_bonds() if max(bond[:2]) <= 3][::4]:
            weight = balanced(bond, None)
            for at, start in enumerate(bond[2]):
                if weight[at]:
                    self.told(machine_of(bond, weight, start), plan_machine(plan_of(bond), weight, start))

    def test_weights_that_are_not_balanced(self):
        random, many = Random(63), 0
        for plan in some_plans():
            for most in (1, 2, 3):
                weight = tuple(random.randint(0, most) for _ in plan[1])
                if not is_balanced(plan, weight):
                    self.raised(Refused, "value", weight, plan_machine, plan, weight, plan[1][0])
                    self.raised(Refused, "value", weight, plan_machine, plan, weight, None)
                    many += 1
        self.assertGreater(many, 100)
        for weight in ((0, 0, 0), (1, 1, 1), (1, 0, 2), [1, 1, 0]):
            self.raised(Refused, "value", weight, plan_machine, EVEN, weight, (0, 0))
        self.raised(Refused, "value", (0,), plan_machine, ONE, (0,), (0, 0, 0))

    def test_no_starts(self):
        def right(value):
            return any(same(value, row) or same(value, list(row)) for row in EVEN[1])
        refuses(self, Refused, "value", plan_machine, (EVEN, (1, 0, 1)), right)
        for value in ((1, 0), [1, 0], (0, 1), (True, 1), (0, False), (0, 0, 0), (0,), (2, 0), (-1, 0)):
            self.raised(Refused, "value", value, plan_machine, EVEN, (1, 0, 1), value)

    def test_names(self):
        self.told(EVEN, check_plan(value=EVEN))
        self.told(EVEN, plan_of(bond=(2, 2, ROWS)))
        self.told((0, ((0, 0), (1, 1)), (((0, 1), (0, 1)), ((0, 1), (0, 1)))), plan_machine(plan=EVEN, weight=(1, 0, 1), start=(0, 0)))
        self.takes_lists(plan_machine, EVEN, (3, 0, 3), (1, 1))
        self.takes_lists(plan_shares, RING, (1, 2, 3, 4, 5, 6))
        self.assertTrue(is_tuples(plan_machine(listed(EVEN), [1, 0, 1], [0, 0])))


if __name__ == "__main__":
    unittest.main()
