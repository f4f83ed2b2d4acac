"""Promises 64 and 65: costs and lines, which costs are convex, and machines whose changes are cheapest for these."""

import unittest
from itertools import permutations, product
from random import Random

from helpers import EVEN, NO_MACHINES, VIEW, Checks, any_values, full, is_tuples, listed, refuses, same, step
from lossless_words import even_bonds, lossless_machine, some_weight
from test_bonds import NO_BONDS
from test_finite import shares
from test_machines import shown_bond
from setitback.change import bent, change, check_cost, check_table, is_convex, line_change, line_of, table_of
from setitback.errors import BadBond, BadMachine, BadWeight, NoFilling, Refused
from setitback.finite import machine_of
from setitback.lossless import is_forgetful

SQUARE, NEW = (25, 16, 9, 4, 1, 0, 1, 4, 9, 16, 25), (1, 1, 1, 1, 1, 0, 1, 1, 1, 1, 1)
GREATEST = 10 ** 9
NO_COSTS = [SQUARE[:10], (*SQUARE, 36), (), (GREATEST + 1, *SQUARE[1:]), (*SQUARE[:10], -GREATEST - 1), (True, *SQUARE[1:]),
            (*SQUARE[:5], False, *SQUARE[6:]), (*SQUARE[:10], None), (*SQUARE[:10], "1"), (*SQUARE[:10], (1,)), "0" * 11]


def is_convex_by_words(cost):
    return not any(2 * cost[at] > cost[at - 1] + cost[at + 1] for at in range(1, 10))


def some_convex(random):
    """A cost whose steps never fall."""
    slopes = sorted(random.randint(-9, 9) for _ in range(10))
    cost = [random.randint(-30, 30)]
    for slope in slopes:
        cost.append(cost[-1] + slope)
    return tuple(cost)


def some_costs(seed, many):
    """Costs that are convex, such costs bent at one item, and any ones."""
    random, found = Random(seed), [SQUARE, NEW, (0,) * 11, (GREATEST,) * 11, (-GREATEST,) * 11]
    found += [tuple(GREATEST if at in (0, 10) else -GREATEST for at in range(11)), (GREATEST, -GREATEST) * 5 + (GREATEST,)]
    for _ in range(many):
        cost = some_convex(random)
        at = random.randrange(11)
        found += [cost, (*cost[:at], cost[at] + random.choice((-1, 1, 5)), *cost[at + 1:]), tuple(random.randint(-9, 9) for _ in range(11))]
    return found


def some_line(random, size, many):
    return tuple(sorted(random.randrange(size) for _ in range(many)))


class Costs(Checks, unittest.TestCase):
    def test_check_cost(self):
        for cost in some_costs(1, 20):
            self.told(cost, check_cost(cost))
            self.told(cost, check_cost(list(cost)))
        for call, rest in ((check_cost, ()), (is_convex, ()), (bent, ()), (line_change, (None, None)), (table_of, (None,))):
            for value in NO_COSTS + any_values():
                self.raised(Refused, "value", value, call, value, *rest)

    def test_is_convex(self):
        seen = {True: 0, False: 0}
        for cost in some_costs(2, 60):
            expected = is_convex_by_words(cost)
            self.told(expected, is_convex(cost))
            self.told(expected, is_convex(list(cost)))
            seen[expected] += 1
        self.assertGreater(min(seen.values()), 50)

    def test_but_for_one_item(self):
        # All on one slope: a single item that is one higher bends it there alone, one lower on either side of it.
        flat = tuple(range(-20, 2, 2))
        self.told(True, is_convex(flat))
        for at in range(11):
            higher, lower = [(*flat[:at], flat[at] + more, *flat[at + 1:]) for more in (1, -1)]
            self.told(at in (0, 10), is_convex(higher))
            self.told(False, is_convex(lower))
            if 0 < at < 10:
                begin = max(0, 5 - at)
                self.told(((begin, begin + 1), (begin + at - 5, begin + at - 4)), bent(higher))
            if at > 1:
                begin = max(0, 6 - at)
                self.told(((begin, begin + 1), (begin + at - 6, begin + at - 5)), bent(lower))

    def test_bent(self):
        many = 0
        for cost in some_costs(3, 60):
            found = bent(cost)
            self.told(found, bent(list(cost)))
            if is_convex_by_words(cost):
                self.told(None, found)
                continue
            d = next(at - 5 for at in range(1, 10) if 2 * cost[at] > cost[at - 1] + cost[at + 1])
            a = next(a for a in range(6) if min(a, a + d) >= 0)
            self.told(((a, a + 1), (a + d, a + d + 1)), found)
            self.assertLessEqual(max(found[0] + found[1]), 5)
            crosswise = line_change(cost, found[0][:1], found[1][1:]) + line_change(cost, found[0][1:], found[1][:1])
            self.assertLess(crosswise, line_change(cost, *found))
            many += 1
        self.assertGreater(many, 60)


class Lines(Checks, unittest.TestCase):
    def test_line_change(self):
        random = Random(4)
        for cost in some_costs(5, 20):
            for many in (1, 2, 5, 12):
                one, other = some_line(random, 6, many), some_line(random, 6, many)
                expected = sum(cost[y - x + 5] for x, y in zip(one, other))
                self.told(expected, line_change(cost, one, other))
                self.told(expected, line_change(list(cost), list(one), list(other)))
        for x, y in product(range(6), repeat=2):
            self.told(y - x, line_change(tuple(range(-5, 6)), (x,), (y,)))

    def test_convex_costs_are_those_with_which_order_is_cheapest(self):
        random = Random(6)
        for cost in some_costs(7, 25):
            cheaper = False
            for _ in range(25):
                many = random.randint(1, 4)
                one, other = some_line(random, 6, many), some_line(random, 6, many)
                least = min(sum(cost[y - x + 5] for x, y in zip(one, row)) for row in permutations(other))
                cheaper = cheaper or least < line_change(cost, one, other)
            if is_convex(cost):
                self.assertFalse(cheaper)
            else:
                self.assertIsNotNone(bent(cost))

    def test_no_lines(self):
        def right(value):
            return isinstance(value, (list, tuple)) and len(value) > 0 and all(type(part) is int and 0 <= part < 6 for part in value) and (
                list(value) == sorted(value))
        refuses(self, Refused, "value", line_change, (SQUARE,), right, (None,))
        refuses(self, Refused, "value", line_change, (SQUARE, (0, 4)), lambda value: right(value) and len(value) == 2)
        for value in ((1, 0), (0, 6), (0, -1), (), [], (0, True), (0, None), "01", (0, 1, 0), [3, 2]):
            self.raised(Refused, "value", value, line_change, SQUARE, value, value)
            self.raised(Refused, "value", value, line_change, SQUARE, (0, 0), value)
        for one, other in (((0,), (0, 0)), ((0, 1, 2), (0, 1)), ([0], [0, 5])):
            self.raised(Refused, "value", other, line_change, SQUARE, one, other)


class Tables(Checks, unittest.TestCase):
    def test_table_of(self):
        for cost in some_costs(8, 8):
            for size in range(1, 7):
                table = table_of(cost, size)
                self.told(tuple(tuple(cost[y - x + 5] for y in range(size)) for x in range(size)), table)
                self.told(table, check_table(table))
                self.told(table, check_table(listed(table)))
                self.told(table, table_of(list(cost), size))
        refuses(self, Refused, "value", table_of, (SQUARE,), lambda value: type(value) is int and 1 <= value <= 6)
        for size in (0, 7, -1, True, "3"):
            self.raised(Refused, "value", size, table_of, SQUARE, size)

    def test_check_table(self):
        random = Random(9)
        for size in range(1, 7):
            table = tuple(tuple(random.choice((random.randint(-9, 9), GREATEST, -GREATEST)) for _ in range(size)) for _ in range(size))
            self.told(table, check_table(table))
            self.told(table, check_table([list(row) for row in table]))
            self.told(table, check_table(list(table)))
        self.told(((-GREATEST,),), check_table(((-GREATEST,),)))
        wrong = [(), [], ((),), ((0, 0),), ((0, 0), (0,)), ((0, 0), (0, 0), (0, 0)), ((0, 0), (0, GREATEST + 1)), ((0, -GREATEST - 1), (0, 0)),
                 ((0, True), (0, 0)), ((0, 0), (False, 0)), ((0, 0), (0, None)), ((0, 0), (0, "1")), ((0, 0), (0, (0,))), ((0, 0), 0), ((0, 0), "00"),
                 ((0,) * 7,) * 7, None, 3, "0"]
        for value in wrong:
            self.raised(Refused, "value", value, check_table, value)
        refuses(self, Refused, "value", check_table, (), lambda value: False)

    def test_line_of(self):
        random = Random(10)
        for bond in even_bonds()[::3]:
            weight = some_weight(random, bond, random.randint(1, 2))
            for side in (0, 1):
                for filling in range(bond[side]):
                    expected = tuple(sorted(pair[1 - side] for pair, many in zip(bond[2], weight) for _ in range(many) if pair[side] == filling))
                    self.told(expected, line_of(bond, weight, side, filling))
                    self.told(expected, line_of(listed(bond), list(weight), side, filling))
        self.told((0,) * 60, line_of(full(1, 1), (60,), 1, 0))
        self.told((0, 0, 1), line_of(bond=VIEW, weight=(2, 1, 1, 2), side=0, filling=0))
        self.told((1, 1), line_of(VIEW, (2, 1, 1, 2), 1, 2))

    def test_line_of_wrong_values(self):
        for value, at in NO_BONDS:
            self.raised(BadBond, "at", at, line_of, value, None, None, None)
        for value in any_values():
            if not isinstance(value, (list, tuple)) or len(value) != 3:
                self.raised(BadWeight, "at", -1, line_of, EVEN, value, None, None)
            if not (type(value) is int and value >= 0):
                self.raised(BadWeight, "at", 1, line_of, EVEN, (1, value, None), None, None)
        for weight in ((0, 0, 0), (1, 1, 1), (1, 0, 2), (201, 0, 201), [1, 1, 0]):
            self.raised(Refused, "value", weight, line_of, EVEN, weight, None, None)
        self.told((1,) * 200, line_of(EVEN, (200, 0, 200), 0, 1))
        refuses(self, Refused, "value", line_of, (EVEN, (1, 0, 1)), lambda value: same(value, 0) or same(value, 1), (None,))
        refuses(self, NoFilling, "value", line_of, (EVEN, (1, 0, 1), 0), lambda value: same(value, 0) or same(value, 1))
        for filling in (2, -1, True, False):
            self.raised(NoFilling, "value", filling, line_of, EVEN, (1, 0, 1), 1, filling)


def some_table(random, size):
    return tuple(tuple(random.randint(-9, 9) for _ in range(size)) for _ in range(size))


def change_by_words(machine, side, one, other, table):
    return sum(table[kind[1 - side]][machine[1][step(machine, x, (side, other))][1 - side]]
               for x, kind in enumerate(machine[1]) if kind[side] == one)


class Change(Checks, unittest.TestCase):
    def machines(self):
        """(Bond, weight, a machine with each pair as often as the weight tells, whose settings are one to one)."""
        random = Random(11)
        for bond in even_bonds()[::4]:
            weight = some_weight(random, bond, random.randint(1, 2))
            if sum(weight) <= 60:
                yield bond, weight, lossless_machine(random, bond, weight, random.random() < 0.3)

    def test_change(self):
        random = Random(12)
        for bond, _, machine in self.machines():
            if shown_bond(machine[1])[:2] != bond[:2]:
                continue
            for side in (0, 1):
                table = some_table(random, bond[1 - side])
                for one, other in product(range(bond[side]), repeat=2):
                    expected = change_by_words(machine, side, one, other, table)
                    self.told(expected, change(machine, side, one, other, table))
                    self.told(expected, change(listed(machine), side, one, other, listed(table)))

    def test_over_all_situations_and_settings_of_what_stands(self):
        # Situation 2 cannot come, and a setting of what stands leads elsewhere there.
        machine = (0, ((0, 0), (1, 1), (0, 1)), (((0, 1), (0, 1)), ((0, 1), (0, 1)), ((0, 1), (0, 1))))
        table = ((1, 10), (100, 1000))
        self.told(101, change(machine, 0, 0, 0, table))
        self.told(1010, change(machine, 0, 0, 1, table))
        self.told(1000, change(machine, 0, 1, 1, table))
        self.told(100, change(machine=machine, side=0, one=1, other=0, table=table))

    def test_one_machine_is_cheapest_for_all_convex_costs(self):
        random, many = Random(13), {True: 0, False: 0}
        for bond, weight, machine in self.machines():
            best = machine_of(bond, weight, next(pair for pair, number in zip(bond[2], weight) if number))
            self.assertTrue(is_forgetful(best))
            for cost in [SQUARE, (0,) * 11, some_convex(random), some_convex(random)]:
                for side in (0, 1):
                    table = table_of(cost, bond[1 - side])
                    lines = [line_of(bond, weight, side, filling) for filling in range(bond[side])]
                    for one, other in product(range(bond[side]), repeat=2):
                        least = change(best, side, one, other, table)
                        self.told(line_change(cost, lines[one], lines[other]), least)
                        found = change_by_words(machine, side, one, other, table)
                        self.assertGreaterEqual(found, least)
                        many[found > least] += 1
        self.assertGreater(min(many.values()), 100)

    def test_wrong_values(self):
        machine = machine_of(VIEW, (2, 1, 1, 2), (0, 1))
        for value, at in NO_MACHINES:
            self.raised(BadMachine, "at", at, change, value, None, None, None, None)
        self.raised(BadMachine, "at", 1, change, (0, ((0, 2),), (((0,), (0, 0, 0)),)), 0, 0, 0, ((0,),))
        refuses(self, Refused, "value", change, (machine,), lambda value: same(value, 0) or same(value, 1), (None, None, None))
        refuses(self, NoFilling, "value", change, (machine, 0), lambda value: same(value, 0) or same(value, 1), (None, None))
        refuses(self, NoFilling, "value", change, (machine, 0, 1), lambda value: same(value, 0) or same(value, 1), (None,))
        refuses(self, Refused, "value", change, (machine, 0, 1, 0), lambda value: False)
        for table in (table_of(SQUARE, 2), table_of(SQUARE, 4), [[0]], ((0, 0, 0), (0, 0, 0), (0, 0, True))):
            self.raised(Refused, "value", table, change, machine, 0, 0, 1, table)
        three = table_of(SQUARE, 3)
        self.raised(Refused, "value", three, change, machine, 1, 0, 1, three)
        for filling in (2, True):
            self.raised(NoFilling, "value", filling, change, machine, 0, filling, None, None)
            self.raised(NoFilling, "value", filling, change, machine, 0, 1, filling, None)
        self.raised(NoFilling, "value", 3, change, machine, 1, 2, 3, None)

    def test_names_and_lists(self):
        self.told(SQUARE, check_cost(value=SQUARE))
        self.told(True, is_convex(cost=SQUARE))
        self.told(((1, 2), (0, 1)), bent(cost=NEW))
        self.told(6, line_change(cost=SQUARE, one=(0, 0, 1), other=(1, 2, 2)))
        self.told(((0, 1), (1, 0)), table_of(cost=NEW, size=2))
        self.told(((0, 1), (1, 0)), check_table(value=[[0, 1], [1, 0]]))
        self.takes_lists(bent, NEW)
        self.takes_lists(line_change, NEW, (0, 1), (3, 4))
        self.takes_lists(table_of, NEW, 3)
        self.takes_lists(line_of, VIEW, (2, 1, 1, 2), 1, 1)
        self.takes_lists(change, machine_of(VIEW, (2, 1, 1, 2), (0, 1)), 0, 0, 1, table_of(SQUARE, 3))
        self.assertTrue(is_tuples((bent(list(NEW)), table_of(list(NEW), 3), line_of(listed(VIEW), [2, 1, 1, 2], 1, 1))))


class Shares(unittest.TestCase):
    def test_the_weights_of_these_tests_are_balanced(self):
        random = Random(14)
        for bond in even_bonds()[::9]:
            self.assertTrue(all(len(set(row)) == 1 for row in shares(bond, some_weight(random, bond, 2))))


if __name__ == "__main__":
    unittest.main()
