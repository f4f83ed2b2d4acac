"""Promises 41 to 43: the ladder of a bond whose greatest quotients come to more than 1, and its layers."""

import unittest
from itertools import product
from math import ceil, isqrt
from random import Random

from helpers import EVEN, Checks, any_values, best, full, is_even, is_tuples, listed, same, small_bonds, uneven_bonds
from test_bonds import NO_BONDS
from setitback.errors import BadBond, Refused
from setitback.flows import circulation
from setitback.ladder import enough, layers, steps
from setitback.tight import carried

VIEW = (3, 2, ((0, 0), (1, 0), (2, 1)))
BONDS = [bond for bond in small_bonds(3) if not is_even(bond)] + uneven_bonds(81, 160)
# Of both some greats are too little for a layer a few steps on.
TIGHT = [(4, 6, ((0, 2), (0, 5), (1, 3), (1, 5), (2, 1), (2, 4), (3, 0), (3, 3))),
         (6, 4, ((0, 0), (0, 3), (1, 2), (2, 0), (2, 1), (2, 2), (3, 0), (4, 0), (5, 1), (5, 3)))]


def steps_by_words(bond, great, many):
    p, q = best(bond, 0), best(bond, 1)
    square = great * great * p / q
    near = range(max(1, isqrt(int(square)) - 2), isqrt(int(square)) + 4)
    rows, columns = [great], [min(near, key=lambda b: (abs(b * b - square), b))]
    for _ in range(many):
        row, column = rows[-1], columns[-1]
        rows.append(ceil(q * column) + 1)
        columns.append(ceil(p * row) + 1)
    return tuple(rows), tuple(columns)


class Steps(Checks, unittest.TestCase):
    def test_steps(self):
        self.assertGreater(len(BONDS), 150)
        for bond in BONDS:
            for great, many in ((1, 3), (2, 0), (3, 2), (7, 12), (1000, 4), (2 * 10 ** 9, 12), (2 * 10 ** 9 - 1, 1)):
                self.told(steps_by_words(bond, great, many), steps(bond, great, many))

    def test_the_first_column(self):
        # Every greatness up to 60: the square next to great * great * p / q, the lesser one of two.
        for bond in BONDS[::4]:
            p, q = best(bond, 0), best(bond, 1)
            for great in range(1, 60, 3):
                square = great * great * p / q
                found = steps(bond, great, 0)[1][0]
                self.assertGreaterEqual(found, 1)
                for other in range(1, 8 * great):
                    away, own = abs(other * other - square), abs(found * found - square)
                    self.assertTrue(own < away or (own == away and found <= other))

    def test_enough(self):
        for bond in BONDS:
            great = 2
            while True:
                (a, above), (b, wider) = steps_by_words(bond, great, 1)
                if min(above - a, wider - b) >= 252:
                    break
                great *= 2
            self.told(great, enough(bond))
        self.told(1024, enough(VIEW))

    def test_how_far_apart(self):
        # The proof of point 43: with enough, differences two, four, .. steps on are 252 at least, the others 49.
        for bond in BONDS[::3]:
            for row in steps(bond, enough(bond), 12):
                for at in range(12):
                    self.assertGreaterEqual(row[at + 1] - row[at], 252 if at % 2 == 0 else 49)


def layers_by_words(bond, start, great, many):
    """Each layer the least tuple, found by trying all; None if one cannot be made."""
    pairs, (rows, columns) = carried(bond), steps_by_words(bond, great, many + 1)
    came = {(side, filling): int(start[side] == filling) for side in (0, 1) for filling in range(bond[side])}
    found = []
    for k in range(many):
        bounds = ((rows[k], rows[k + 1]), (columns[k], columns[k + 1]))
        most = [max(0, min(rows[k + 1] - came[0, s], columns[k + 1] - came[1, t])) for s, t in pairs]
        for weight in product(*[range(high + 1) for high in most]):
            total = dict(came)
            for (s, t), times in zip(pairs, weight):
                total[0, s] += times
                total[1, t] += times
            if all(bounds[side][0] <= much <= bounds[side][1] for (side, _), much in total.items()):
                break
        else:
            return None
        came = total
        found.append(weight)
    return tuple(found)


class Layers(Checks, unittest.TestCase):
    def test_least_tuples(self):
        many = 0
        for bond in [bond for bond in BONDS if len(carried(bond)) <= 4 and sum(bond[:2]) <= 6]:
            for start in bond[2]:
                for great in (1, 2, 3):
                    if steps_by_words(bond, great, 2)[0][2] + steps_by_words(bond, great, 2)[1][2] > 30:
                        continue
                    expected = layers_by_words(bond, start, great, 2)
                    self.told(expected, layers(bond, start, great, 2))
                    self.told(expected[:1], layers(bond, start, great, 1))
                    self.told((), layers(bond, start, great, 0))
                    many += 1
        self.assertGreater(many, 150)

    def test_what_comes_of_them(self):
        # With enough all can be made, for each start, whether it is carried or not.
        random = Random(8)
        uncarried = 0
        for bond in BONDS[::2]:
            great, pairs = enough(bond), carried(bond)
            rows, columns = steps(bond, great, 7)
            for start in random.sample(bond[2], min(3, len(bond[2]))):
                uncarried += start not in pairs
                found = layers(bond, start, great, 6)
                self.assertTrue(is_tuples(found) and len(found) == 6)
                came = {(side, filling): int(start[side] == filling) for side in (0, 1) for filling in range(bond[side])}
                for k, weight in enumerate(found):
                    self.assertEqual(len(weight), len(pairs))
                    self.assertTrue(all(type(times) is int and times >= 0 for times in weight))
                    for (s, t), times in zip(pairs, weight):
                        came[0, s] += times
                        came[1, t] += times
                    for (side, _), much in came.items():
                        steps_there = (rows, columns)[side]
                        self.assertLessEqual(steps_there[k], much)
                        self.assertLessEqual(much, steps_there[k + 1])
                for k in range(7):
                    self.told(found[:k], layers(bond, start, great, k))
        self.assertGreater(uncarried, 30)

    def test_great_limits(self):
        for bond in BONDS[::9]:
            self.assertEqual(len(layers(bond, bond[2][-1], 2 ** 20, 6)), 6)

    def can_go_on(self, bond, start, great, made):
        """Whether a layer can be made behind those that are: no cut bars it."""
        rows, columns = steps(bond, great, len(made) + 1)
        came = [[int(start[side] == filling) for filling in range(bond[side])] for side in (0, 1)]
        for weight in made:
            for (s, t), times in zip(carried(bond), weight):
                came[0][s] += times
                came[1][t] += times
        m, n = bond[:2]
        arcs = [(s, m + t, 0, 10 ** 9) for s, t in carried(bond)]
        arcs += [(m + n, s, max(0, rows[-2] - came[0][s]), rows[-1] - came[0][s]) for s in range(m)]
        arcs += [(m + t, m + n, max(0, columns[-2] - came[1][t]), columns[-1] - came[1][t]) for t in range(n)]
        return circulation(m + n + 1, arcs)[0] == "flow"

    def test_layers_that_cannot_be_made(self):
        seen = {}
        for bond in TIGHT:
            for start in bond[2]:
                for great in (1, 2, 3, 4, 7, 10):
                    made = ()
                    while len(made) < 7 and self.can_go_on(bond, start, great, made):
                        made = layers(bond, start, great, len(made) + 1)
                    if len(made) < 7:
                        self.raised(Refused, "value", great, layers, bond, start, great, len(made) + 1)
                        self.raised(Refused, "value", great, layers, bond, start, great, 9)
                    seen[len(made)] = seen.get(len(made), 0) + 1
                self.assertEqual(len(layers(bond, start, enough(bond), 6)), 6)
        self.assertGreater(seen[7], 50)
        self.assertGreater(sum(seen.values()) - seen[7], 10)


class Wrong(Checks, unittest.TestCase):
    def test_no_bonds(self):
        for value, at in NO_BONDS:
            for call, rest in ((steps, (None, None)), (enough, ()), (layers, (None, None, None))):
                self.raised(BadBond, "at", at, call, value, *rest)
        for bond in (EVEN, full(2, 3), full(1, 1), (2, 2, ((0, 0), (1, 1)))):
            for call, rest in ((steps, (None, None)), (enough, ()), (layers, (None, None, None))):
                self.raised(Refused, "value", bond, call, bond, *rest)
                self.raised(Refused, "value", passed := listed(bond), call, passed, *rest)

    def test_no_starts(self):
        for value in any_values():
            if not (isinstance(value, (list, tuple)) and any(same(tuple(value), pair) for pair in VIEW[2])):
                self.raised(Refused, "value", value, layers, VIEW, value, None, None)
                self.raised(Refused, "value", value, layers, VIEW, value, 1024, 0)
        self.raised(Refused, "value", (0, 1), layers, VIEW, (0, 1), 1024, 0)

    def test_no_great_no_many(self):
        for value in any_values():
            if not (type(value) is int and value > 0):
                self.raised(Refused, "value", value, steps, VIEW, value, None)
                self.raised(Refused, "value", value, layers, VIEW, (0, 0), value, None)
            if not (type(value) is int and value >= 0):
                self.raised(Refused, "value", value, steps, VIEW, 1, value)
                self.raised(Refused, "value", value, layers, VIEW, (0, 0), 1, value)
        self.raised(Refused, "value", 0, steps, VIEW, 0, 0)
        self.raised(Refused, "value", True, steps, VIEW, True, True)

    def test_names_and_lists(self):
        self.told(((2, 4, 6, 10), (3, 5, 9, 13)), steps(bond=VIEW, great=2, many=3))
        self.told(1024, enough(bond=VIEW))
        self.told(((1, 2, 3), (2, 2, 2)), layers(bond=VIEW, start=[0, 0], great=2, many=2))
        self.takes_lists(steps, VIEW, 5, 4)
        self.takes_lists(enough, VIEW)
        self.takes_lists(layers, VIEW, (0, 0), 1024, 3)
        self.assertTrue(is_tuples(steps(listed(VIEW), 5, 4)))


if __name__ == "__main__":
    unittest.main()
