"""Promise 66: the cheapest pairing of two lines by any table, prices that show it, and machines that change so."""

import time
import unittest
from itertools import permutations, product
from random import Random

from helpers import EVEN, VIEW, Checks, any_values, full, is_tuples, listed, refuses, same, step
from lossless_words import even_bonds, some_weight
from test_bonds import NO_BONDS
from test_change import NEW, SQUARE, change_by_words, some_line, some_table
from setitback.change import cheap_machine, cheapest, cheapest_holds, line_of, table_of
from setitback.errors import BadBond, BadWeight, Refused
from setitback.finite import machine_of
from setitback.lossless import is_forgetful, is_lossless
from setitback.machines import check_machine

GREATEST = 10 ** 9


def is_right(table, one, other, value):
    """Whether a value of right form is a cheapest pairing with its prices, word by word."""
    cost, pairing, (left, right) = value
    costs = [[table[x][y] for y in other] for x in one]
    if sorted(pairing) != list(range(len(one))) or sum(row[place] for row, place in zip(costs, pairing)) != cost:
        return False
    if any(left[x] + right[y] > costs[x][y] for x in range(len(one)) for y in range(len(one))):
        return False
    return sum(left) + sum(right) == cost


def least_cost(table, one, other):
    """What the cheapest pairing costs, by the cheapest ones of the first places with each lot of the others."""
    costs = {frozenset(): 0}
    for x in one:
        following = {}
        for lot, cost in costs.items():
            for place, y in enumerate(other):
                if place not in lot:
                    wider = lot | {place}
                    following[wider] = min(cost + table[x][y], following.get(wider, 10 ** 12))
        costs = following
    return costs[frozenset(range(len(other)))]


def cases():
    random, found = Random(21), []
    for _ in range(150):
        size, many = random.randint(1, 6), random.randint(1, 7)
        found.append((some_table(random, size), some_line(random, size, many), some_line(random, size, many)))
    for many in (1, 12):
        for _ in range(4):
            table = tuple(tuple(random.choice((GREATEST, -GREATEST, random.randint(-GREATEST, GREATEST))) for _ in range(6)) for _ in range(6))
            found.append((table, some_line(random, 6, many), some_line(random, 6, many)))
    found += [(table_of(cost, 6), some_line(random, 6, 5), some_line(random, 6, 5)) for cost in (SQUARE, NEW) for _ in range(10)]
    return found + [(((7,),), (0,), (0,)), (((-7,),), (0,) * 12, (0,) * 12)]


CASES = cases()


class Cheapest(Checks, unittest.TestCase):
    def test_cheapest(self):
        for table, one, other in CASES:
            found = cheapest(table, one, other)
            self.assertTrue(is_tuples(found) and is_right(table, one, other, found))
            self.assertEqual(found[0], least_cost(table, one, other))
            self.assertTrue(all(-10 ** 19 <= price <= 10 ** 19 for row in found[2] for price in row))
            self.told(True, cheapest_holds(table, one, other, found))
            self.told(found, cheapest(listed(table), list(one), list(other)))
            self.told(True, cheapest_holds(listed(table), list(one), list(other), listed(found)))

    def test_by_trying_all(self):
        for table, one, other in CASES:
            if len(one) <= 5:
                least = min(sum(table[x][y] for x, y in zip(one, row)) for row in permutations(other))
                self.assertEqual(cheapest(table, one, other)[0], least)

    def test_bent_at_one_place(self):
        seen = {True: 0, False: 0}
        for table, one, other in CASES[::3]:
            cost, pairing, prices = cheapest(table, one, other)
            values = [(cost + more, pairing, prices) for more in (-1, 1)]
            for side, row in enumerate(prices):
                for at, price in enumerate(row):
                    for more in (-1, 1):
                        fresh = (*row[:at], price + more, *row[at + 1:])
                        values.append((cost, pairing, (fresh, prices[1]) if side == 0 else (prices[0], fresh)))
            for x, y in product(range(len(one)), repeat=2):
                mixed = list(pairing)
                mixed[x], mixed[y] = mixed[y], mixed[x]
                values.append((cost, tuple(mixed), prices))
                values.append((sum(table[one[at]][other[place]] for at, place in enumerate(mixed)), tuple(mixed), prices))
                values.append((cost, (*pairing[:x], pairing[y], *pairing[x + 1:]), prices))
            values.append((cost, pairing, (prices[1], prices[0])))
            # What one side's prices all give, the other's all take: they come to the same cost.
            values.append((cost, pairing, tuple(tuple(price + more for price in row) for row, more in zip(prices, (10 ** 20, -(10 ** 20))))))
            for value in values:
                expected = is_right(table, one, other, value)
                self.told(expected, cheapest_holds(table, one, other, value))
                seen[expected] += 1
        self.assertGreater(min(seen.values()), 100)

    def test_any_value_holds_or_not(self):
        table, one, other = table_of(NEW, 3), (1, 2), (0, 1)
        right = (1, (1, 0), ((0, 1), (0, 0)))
        self.told(True, cheapest_holds(table, one, other, right))
        for value in any_values():
            self.told(False, cheapest_holds(table, one, other, value))
            self.told(False, cheapest_holds(table, one, other, (value, *right[1:])))
            self.told(False, cheapest_holds(table, one, other, (1, value, right[2])))
            self.told(False, cheapest_holds(table, one, other, (1, (1, value), right[2])))
            self.told(False, cheapest_holds(table, one, other, (*right[:2], value)))
            self.told(False, cheapest_holds(table, one, other, (*right[:2], (value, (0, 0)))))
            self.told(False, cheapest_holds(table, one, other, (*right[:2], ((0, 1), value))))
            if type(value) is not int:
                self.told(False, cheapest_holds(table, one, other, (*right[:2], ((0, value), (0, 0)))))
                self.told(False, cheapest_holds(table, one, other, (*right[:2], ((0, 1), (value, 0)))))
            self.told(False, cheapest_holds(table, one, other, (*right, value)))
        for value in ((True, *right[1:]), (1, (True, 0), right[2]), (1, (1, False), right[2]), (1, (1, 0), ((0, True), (0, 0))),
                      (1, (1, 0), ((0, 1), (0, False))), (1, (1, 0), ((0, 1), (0,))), (1, (1, 0), ((0, 1, 0), (0, 0))), (1, (1, 0, 2), right[2]),
                      (1, (1,), right[2]), (1, (1, 1), right[2]), (1, (1, 0), ((0, 1), (0, 0), ())), (1, (1, -1), right[2]), (1, (1, 2), right[2])):
            self.told(False, cheapest_holds(table, one, other, value))
        self.told(True, cheapest_holds(table, one, other, [1, [1, 0], [[0, 1], [0, 0]]]))
        self.told(True, cheapest_holds(table, one, other, (1, (1, 0), ((10 ** 20, 10 ** 20 + 1), (-(10 ** 20), -(10 ** 20))))))

    def test_wrong_values(self):
        table = table_of(NEW, 3)
        for call, rest in ((cheapest, ()), (cheapest_holds, (None,))):
            refuses(self, Refused, "value", call, (), lambda value: False, (None, None, *rest))

            def right(value):
                return isinstance(value, (list, tuple)) and len(value) > 0 and all(type(part) is int and 0 <= part < 3 for part in value) and (
                    list(value) == sorted(value))
            refuses(self, Refused, "value", call, (table,), right, (None, *rest))
            refuses(self, Refused, "value", call, (table, (0, 2)), lambda value: right(value) and len(value) == 2, rest)
            for value in ((0, 3), (1, 0), (), (0, True), [2, 1], (0, -1)):
                self.raised(Refused, "value", value, call, table, value, value, *rest)
                self.raised(Refused, "value", value, call, table, (0, 0), value, *rest)
            self.raised(Refused, "value", (0, 1, 2), call, table, (0, 1), (0, 1, 2), *rest)
            self.raised(Refused, "value", ((0, 0),), call, ((0, 0),), (0, 9), (), *rest)


def mirrored(random, size, most=9):
    rows = [[random.randint(-most, most) for _ in range(size)] for _ in range(size)]
    return tuple(tuple(rows[max(x, y)][min(x, y)] for y in range(size)) for x in range(size))


class CheapMachine(Checks, unittest.TestCase):
    def check(self, bond, weight, start, rows, columns):
        machine = cheap_machine(bond, weight, start, rows, columns)
        self.assertEqual(machine[:2], machine_of(bond, weight, start)[:2])
        self.told(machine, check_machine(bond, machine))
        for x, kind in enumerate(machine[1]):
            for side in (0, 1):
                self.assertEqual(step(machine, x, (side, kind[side])), x)
                for filling in range(bond[side]):
                    self.assertEqual(step(machine, step(machine, x, (side, filling)), (side, kind[side])), x)
        for side, table in ((0, columns), (1, rows)):
            lines = [line_of(bond, weight, side, filling) for filling in range(bond[side])]
            for one, other in product(range(bond[side]), repeat=2):
                if one != other:
                    least = cheapest(table, lines[one], lines[other])[0]
                    self.assertEqual(change_by_words(machine, side, one, other, table), least)
        return machine

    def test_all_changes_are_cheapest(self):
        random, keeps = Random(22), 0
        for bond in even_bonds()[::3]:
            weight = some_weight(random, bond, random.randint(1, 2))
            start = random.choice([pair for pair, many in zip(bond[2], weight) if many])
            if sum(weight) <= 60:
                rows, columns = mirrored(random, bond[0]), mirrored(random, bond[1])
                machine = self.check(bond, weight, start, rows, columns)
                if sum(weight) < 20:
                    self.assertTrue(is_lossless(machine))
                    keeps += not is_forgetful(machine)
                self.told(machine, cheap_machine(listed(bond), list(weight), list(start), listed(rows), listed(columns)))
        # It need not be forgetful, and some of these are not.
        self.assertGreater(keeps, 3)

    def test_at_the_limits(self):
        random = Random(23)
        begun = time.perf_counter()
        for bond, weight in ((full(6, 6), (1,) * 36), (full(2, 6), (5,) * 12), (full(1, 1), (60,)), (full(2, 2), (20, 10, 10, 20)), (full(6, 1), (10,) * 6)):
            self.check(bond, weight, bond[2][-1], mirrored(random, bond[0], GREATEST), mirrored(random, bond[1], GREATEST))
        for table, one, other in CASES:
            cheapest(table, one, other)
        self.assertLess(time.perf_counter() - begun, 10)

    def test_wrong_values(self):
        none = (None,) * 4
        for value, at in NO_BONDS:
            self.raised(BadBond, "at", at, cheap_machine, value, *none)
        for value in any_values():
            if not isinstance(value, (list, tuple)) or len(value) != 3:
                self.raised(BadWeight, "at", -1, cheap_machine, EVEN, value, *none[1:])
            if not (type(value) is int and value >= 0):
                self.raised(BadWeight, "at", 2, cheap_machine, EVEN, (1, 0, value), *none[1:])
        for weight in ((0, 0, 0), (1, 1, 1), (201, 0, 201)):
            self.raised(Refused, "value", weight, cheap_machine, EVEN, weight, *none[1:])

        def right(value):
            return any(same(value, pair) or same(value, list(pair)) for pair in EVEN[2])
        refuses(self, Refused, "value", cheap_machine, (EVEN, (1, 0, 1)), right, none[2:])
        self.raised(Refused, "value", (1, 0), cheap_machine, EVEN, (1, 0, 1), (1, 0), None, None)

    def test_no_tables(self):
        before, table, three = (VIEW, (2, 1, 1, 2), (0, 1)), ((0, 1), (1, 0)), ((0, 1, 2), (1, 0, 3), (2, 3, 0))
        self.check(*before, table, three)
        refuses(self, Refused, "value", cheap_machine, before, lambda value: False, (None,))
        refuses(self, Refused, "value", cheap_machine, (*before, table), lambda value: False)
        for wrong in (three, ((0, 1), (2, 0)), [[0, 1], [0, 0]], ((0, 1), (True, 0)), ((0, GREATEST + 1), (GREATEST + 1, 0)), ((0,),), ((0, 1), (1,))):
            self.raised(Refused, "value", wrong, cheap_machine, *before, wrong, three)
        for wrong in (table, ((0, 1, 2), (1, 0, 3), (2, 4, 0)), ((0, 1, 2), (1, 0, 3), (2, 3, False)), ((0, 1, 2), (1, 0, 3))):
            self.raised(Refused, "value", wrong, cheap_machine, *before, table, wrong)
        # What it costs to stay may be anything.
        self.check(*before, ((5, 1), (1, -5)), ((GREATEST, 1, 2), (1, 0, 3), (2, 3, 9)))

    def test_names_and_lists(self):
        found = cheapest(table=table_of(NEW, 3), one=(1, 2), other=(0, 1))
        self.told(True, cheapest_holds(table=table_of(NEW, 3), one=(1, 2), other=(0, 1), value=found))
        self.told(machine_of(full(1, 1), (3,), (0, 0)), cheap_machine(bond=full(1, 1), weight=(3,), start=(0, 0), rows=((0,),), columns=((9,),)))
        self.takes_lists(cheapest, table_of(NEW, 3), (1, 2), (0, 1))
        self.takes_lists(cheapest_holds, table_of(NEW, 3), (1, 2), (0, 1), found)
        self.takes_lists(cheap_machine, VIEW, (2, 1, 1, 2), (0, 1), table_of(NEW, 2), table_of(NEW, 3))
        self.assertTrue(is_tuples(cheap_machine(listed(VIEW), [2, 1, 1, 2], [0, 1], listed(table_of(NEW, 2)), listed(table_of(NEW, 3)))))


if __name__ == "__main__":
    unittest.main()
