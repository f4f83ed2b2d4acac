"""Promises 44 to 46: the growing machine, its ranks and settings, and how many situations come within some settings."""

import unittest
from fractions import Fraction
from math import ceil, floor
from random import Random

from helpers import EVEN, Checks, any_values, best, full, is_even, is_tuples, listed, same, settings, small_bonds, uneven_bonds
from test_bonds import NO_BONDS
from setitback.errors import BadBond, NoFilling, NoSituation, Refused
from setitback.growing import Growing
from setitback.ladder import enough, layers, steps
from setitback.tight import carried

VIEW = (3, 2, ((0, 0), (1, 0), (2, 1)))
BONDS = [bond for bond in small_bonds(3) if not is_even(bond)][::3] + uneven_bonds(91, 25, 4)
# Each bond with a start that is carried and, if there is one, with one that is not.
CASES = [(bond, start) for bond in BONDS
         for start in [carried(bond)[-1], *[pair for pair in bond[2] if pair not in carried(bond)][:1]]]


class GrowingByWords:
    """The first layers of a growing machine, written out."""

    def __init__(self, bond, start, many):
        self.kinds, self.ends = [start], [1]
        for weight in layers(bond, start, enough(bond), many):
            for pair, times in zip(carried(bond), weight):
                self.kinds += [pair] * times
            self.ends.append(len(self.kinds))
        self.lots = {(side, filling): [x for x, kind in enumerate(self.kinds) if kind[side] == filling]
                     for side, filling in settings(bond)}

    def rank(self, x, side):
        return self.lots[side, self.kinds[x][side]].index(x)

    def put(self, x, setting):
        return self.lots[setting][self.rank(x, setting[0])]


def some_situations(random, ends, many):
    """Situations of the first layers, those at their ends among them."""
    edges = [x for end in ends for x in (end - 1, end, end + 1) if x < ends[-1]]
    return sorted(set(edges + [0, 1, 2] + [random.randrange(ends[-1]) for _ in range(many)]))


class Attributes(Checks, unittest.TestCase):
    def test_attributes_and_weights(self):
        self.assertGreater(len([1 for bond, start in CASES if start not in carried(bond)]), 10)
        for bond, start in CASES:
            growing = Growing(listed(bond), list(start))
            self.told((bond, start, carried(bond), enough(bond)), (growing.bond, growing.start, growing.pairs, growing.great))
            self.told(layers(bond, start, enough(bond), 9), tuple(growing.weight(layer) for layer in range(9)))
        growing = Growing(VIEW, (0, 0))
        # In whatever order layers are asked for.
        self.told(layers(VIEW, (0, 0), 1024, 9)[8], growing.weight(8))
        self.told((1023, 1024, 1448), growing.weight(0))


class Ranks(Checks, unittest.TestCase):
    def test_shown_layer_rank_nth(self):
        random = Random(1)
        for bond, start in CASES[::2]:
            growing, words = Growing(bond, start), GrowingByWords(bond, start, 3)
            for x in some_situations(random, words.ends, 12):
                self.told(words.kinds[x], growing.shown(x))
                self.told(None if x == 0 else next(k for k, end in enumerate(words.ends[1:]) if x < end), growing.layer(x))
                for side in (0, 1):
                    rank = words.rank(x, side)
                    self.told(rank, growing.rank(x, side))
                    self.told(x, growing.nth(side, words.kinds[x][side], rank))

    def test_great_ones(self):
        random = Random(2)
        for bond, start in CASES[::3]:
            growing = Growing(bond, start)
            for x in (10 ** 12, random.randrange(10 ** 12), random.randrange(10 ** 8)):
                shown, layer = growing.shown(x), growing.layer(x)
                ahead = 1 + sum(sum(growing.weight(k)) for k in range(layer))
                self.assertTrue(ahead <= x < ahead + sum(growing.weight(layer)))
                before = [pair for pair, times in zip(growing.pairs, growing.weight(layer)) if pair < shown]
                copy = x - ahead - sum(dict(zip(growing.pairs, growing.weight(layer)))[pair] for pair in before)
                self.assertTrue(0 <= copy < dict(zip(growing.pairs, growing.weight(layer)))[shown])
                for side in (0, 1):
                    rank = int(start[side] == shown[side]) + copy
                    for k in range(layer + 1):
                        for pair, times in zip(growing.pairs, growing.weight(k)):
                            rank += times if pair[side] == shown[side] and (k < layer or pair < shown) else 0
                    self.told(rank, growing.rank(x, side))
                    self.told(x, growing.nth(side, shown[side], rank))

    def test_rank_none(self):
        for bond, start in CASES[::2]:
            growing = Growing(bond, start)
            for side, filling in settings(bond):
                first = growing.nth(side, filling, 0)
                self.assertEqual(growing.shown(first)[side], filling)
                self.assertEqual(growing.rank(first, side), 0)
                if start[side] == filling:
                    self.told(0, first)
                self.assertTrue(growing.layer(first) in (None, 0))


class Settings(Checks, unittest.TestCase):
    def test_put(self):
        random = Random(3)
        for bond, start in CASES[::3]:
            growing, words = Growing(bond, start), GrowingByWords(bond, start, 4)
            for x in some_situations(random, words.ends[:3], 8):
                for setting in settings(bond):
                    self.told(words.put(x, setting), growing.put(x, setting))
                    self.told(words.put(x, setting), growing.put(x, list(setting)))

    def test_led(self):
        random = Random(4)
        for bond, start in CASES[::3]:
            growing = Growing(bond, start)
            for x, many in ((0, 30), (random.randrange(10 ** 6), 7), (10 ** 10, 2), (5, 0)):
                run = tuple(random.choices(settings(bond), k=many))
                there = x
                for setting in run:
                    there = growing.put(there, setting)
                self.told(there, growing.led(x, run))
                self.told(there, growing.led(x, listed(run)))

    def test_loses_nothing_and_forgets(self):
        random = Random(5)
        for bond, start in CASES:
            growing = Growing(bond, start)
            for x in [0, 1, 2, random.randrange(1000), random.randrange(10 ** 5), random.randrange(10 ** 9)]:
                for side, filling in settings(bond):
                    y = growing.put(x, (side, filling))
                    stood = growing.shown(x)[side]
                    self.assertEqual(growing.shown(y)[side], filling)
                    self.assertIn(growing.shown(y), bond[2])
                    self.assertEqual(growing.put(y, (side, stood)), x)
                    if filling == stood:
                        self.assertEqual(y, x)
                    for other in range(bond[side]):
                        self.assertEqual(growing.put(y, (side, other)), growing.put(x, (side, other)))
                    # A setting leads at most one layer on, or back.
                    here, there = [-1 if growing.layer(z) is None else growing.layer(z) for z in (x, y)]
                    self.assertLessEqual(abs(here - there), 1)

    def test_walked_back(self):
        random = Random(6)
        for bond, start in CASES[::2]:
            growing = Growing(bond, start)
            x, run = 0, []
            for setting in random.choices(settings(bond), k=20):
                run.insert(0, (setting[0], growing.shown(x)[setting[0]]))
                x = growing.put(x, setting)
            self.told(0, growing.led(x, run))


def within_by_words(bond, many):
    half = best(bond, 0) * best(bond, 1)
    rows, columns = steps(bond, enough(bond), many)
    return ceil(half ** floor(Fraction(many, 2))), 1 if many == 0 else min(bond[0] * rows[many], bond[1] * columns[many])


class Within(Checks, unittest.TestCase):
    def test_within(self):
        for bond, start in CASES[::2]:
            growing = Growing(bond, start)
            for many in (0, 1, 2, 3, 4, 9, 40):
                self.told(within_by_words(bond, many), growing.within(many))
        self.told(within_by_words(VIEW, 1000), Growing(VIEW, (0, 0)).within(1000))
        wide = uneven_bonds(3, 1, 6)[0]
        self.told(within_by_words(wide, 1000), Growing(wide, wide[2][0]).within(1000))

    def test_as_many_situations_lie_between(self):
        for bond, start in CASES[::4]:
            growing = Growing(bond, start)
            come = {0}
            for many in range(6):
                low, high = growing.within(many)
                self.assertLessEqual(low, len(come))
                self.assertLessEqual(len(come), high)
                self.assertTrue(all(growing.layer(x) is None or growing.layer(x) < many for x in come))
                come |= {growing.put(x, setting) for x in come for setting in settings(bond)}

    def test_at_most_a_constant_times(self):
        for bond, start in CASES[::4]:
            growing, product = Growing(bond, start), best(bond, 0) * best(bond, 1)
            most = max(Fraction(growing.within(many)[1], 1) / product ** (many // 2) for many in range(1, 12))
            # What comes behind falls to a bound: each step adds less and less to the quotient.
            limit = most * product * 2
            for many in (20, 41, 100, 301):
                self.assertLessEqual(Fraction(growing.within(many)[1]) / product ** (many // 2), limit)

    def test_the_second_number_rises_as_told(self):
        for bond, _ in CASES[::4]:
            p, q = best(bond, 0), best(bond, 1)
            rows, columns = steps(bond, enough(bond), 30)
            for k in range(29):
                self.assertLessEqual(rows[k + 2], p * q * rows[k] + 2 * q + 2)
                self.assertLessEqual(columns[k + 2], p * q * columns[k] + 2 * p + 2)


class Wrong(Checks, unittest.TestCase):
    def test_no_bonds_no_starts(self):
        for value, at in NO_BONDS:
            self.raised(BadBond, "at", at, Growing, value, None)
        for value in any_values():
            if not (isinstance(value, (list, tuple)) and any(same(tuple(value), pair) for pair in VIEW[2])):
                self.raised(Refused, "value", value, Growing, VIEW, value)
        for bond in (EVEN, full(2, 3), full(1, 1)):
            for start in bond[2]:
                self.raised(Refused, "value", start, Growing, bond, start)
            self.raised(Refused, "value", None, Growing, bond, None)

    def test_no_situations(self):
        growing = Growing(VIEW, (0, 0))
        calls = [(growing.shown, ()), (growing.layer, ()), (growing.rank, (None,)), (growing.put, (None,)), (growing.led, (None,))]
        for value in any_values():
            if not (type(value) is int and value >= 0):
                for call, rest in calls:
                    self.raised(NoSituation, "value", value, call, value, *rest)

    def test_no_sides_fillings_ranks_layers(self):
        growing = Growing(VIEW, (0, 0))
        for value in any_values():
            small = type(value) is int and value in (0, 1)
            number = type(value) is int and value >= 0
            if not small:
                self.raised(Refused, "value", value, growing.rank, 0, value)
                self.raised(Refused, "value", value, growing.rank, 77, value)
                self.raised(Refused, "value", value, growing.nth, value, None, None)
                self.raised(NoFilling, "value", value, growing.nth, 1, value, None)
            if not number:
                self.raised(Refused, "value", value, growing.nth, 0, 2, value)
                self.raised(Refused, "value", value, growing.within, value)
                self.raised(Refused, "value", value, growing.weight, value)
        self.raised(NoFilling, "value", 3, growing.nth, 0, 3, None)
        self.raised(NoFilling, "value", 2, growing.nth, 1, 2, None)
        self.raised(NoFilling, "value", True, growing.nth, 0, True, 0)

    def test_no_settings_no_runs(self):
        growing = Growing(VIEW, (0, 0))

        def right(value):
            return isinstance(value, (list, tuple)) and any(same(tuple(value), setting) for setting in settings(VIEW))
        for value in any_values():
            if not right(value):
                self.raised(Refused, "value", value, growing.put, 3, value)
                self.raised(Refused, "value", value, growing.led, 3, [(0, 1), value, None])
                self.raised(Refused, "value", value, growing.led, 0, (value,))
            if not isinstance(value, (list, tuple)):
                self.raised(Refused, "value", value, growing.led, 3, value)
        for value in ((0, 3), (1, 2), (2, 0), (1, -1), (True, 0), (0, False), (0,), (0, 0, 0)):
            self.raised(Refused, "value", value, growing.put, 0, value)

    def test_names_and_equal_calls(self):
        growing = Growing(bond=VIEW, start=(0, 0))
        again = Growing(VIEW, [0, 0])
        self.told(growing.put(10 ** 9, (1, 1)), again.put(10 ** 9, (1, 1)))
        self.told((0, 0), growing.shown(situation=0))
        self.told(None, growing.layer(situation=0))
        self.told(1, growing.layer(situation=3496))
        self.told(0, growing.rank(situation=0, side=1))
        self.told(1, growing.nth(side=0, filling=0, rank=1))
        self.told(1024, growing.put(situation=0, setting=[0, 1]))
        self.told(0, growing.led(situation=3496, run=[[0, 2], [1, 0], [0, 0]]))
        self.told((425, 425, 601), growing.weight(layer=1))
        self.told((4, 11602), growing.within(many=4))
        self.assertTrue(is_tuples((growing.bond, growing.pairs, growing.weight(3))))
        bond = listed(VIEW)
        growing = Growing(bond, [0, 0])
        bond[2][0][1] = 1
        self.told(again.weight(4), growing.weight(4))
        self.told(VIEW, growing.bond)


if __name__ == "__main__":
    unittest.main()
