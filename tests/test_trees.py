"""Promises 54 to 58: forms bound in a tree, what bars a start, gluing, and machines that are glued."""

import unittest
from itertools import product
from math import lcm
from random import Random

from helpers import Checks, any_values, bonds_of, is_even, is_tuples, listed, refuses, same
from lossless_words import crosses
from setitback.errors import BadTree, Refused
from setitback.finite import is_least
from setitback.glued import glued, glued_holds, led_through
from setitback.trees import barring, check_tree, edge_bond, fewest_situations, fitting

DIAGONAL, CORNER = ((0, 0), (1, 1)), ((0, 0), (1, 0), (1, 1))
TREE = ((2, 2, 2), ((0, 1, DIAGONAL), (1, 2, CORNER)))
MACHINE = (0, ((0, 0, 0), (1, 1, 1)), (((0, 1), (0, 1), (0, 1)), ((0, 1), (0, 1), (0, 1))))
ONES = ((1, 1), ((0, 1, ((0, 0),)),))


def some_pairs(random, m, n):
    """Pairs of a bond, of an even one rather often."""
    every = list(product(range(m), range(n)))
    while True:
        part = random.choice((3, 5, 8, 10))
        pairs = tuple(pair for pair in every if random.randrange(10) < part)
        if len({s for s, _ in pairs}) == m and len({t for _, t in pairs}) == n:
            if is_even((m, n, pairs)) or random.random() < 0.15:
                return pairs


def some_tree(random, most=4):
    many = random.randint(2, 4)
    sizes = tuple(random.randint(1, most) for _ in range(many))
    order = random.sample(range(many), many)
    ends = sorted(tuple(sorted((order[at], random.choice(order[:at])))) for at in range(1, many))
    return sizes, tuple((form, later, some_pairs(random, sizes[form], sizes[later])) for form, later in ends)


def some_trees():
    random = Random(41)
    found = [((m, n), ((0, 1, bond[2]),)) for m in (1, 2) for n in (1, 2, 3) for bond in bonds_of(m, n)]
    found += [some_tree(random) for _ in range(120)] + [some_tree(random, 2) for _ in range(40)]
    full = tuple(product(range(4), range(4)))
    return found + [TREE, ONES, ((4, 4, 4, 4), ((0, 1, full), (0, 2, full), (0, 3, full))), ((3, 4, 2, 1), (
        (0, 1, tuple(product(range(3), range(4)))), (1, 2, tuple(product(range(4), range(2)))), (2, 3, ((0, 0), (1, 0)))))]


TREES = some_trees()


def rows_of(tree):
    return [row for row in product(*map(range, tree[0])) if all((row[a], row[b]) in pairs for a, b, pairs in tree[1])]


def bars(tree, start):
    for at, (form, later, pairs) in enumerate(tree[1]):
        bond = (tree[0][form], tree[0][later], pairs)
        if not is_even(bond) or crosses(bond, (start[form], start[later])):
            return at
    return None


def holds(tree, start, value):
    """Whether a three of sequences of numbers is such a machine, word by word."""
    first, kinds, moves = value
    many = lcm(*tree[0])
    if bars(tree, start) is not None or len(kinds) != many or len(moves) != many:
        return False
    if not all(tuple(kind) in rows_of(tree) for kind in kinds) or tuple(kinds[first]) != start:
        return False
    for x in range(many):
        for form, size in enumerate(tree[0]):
            if len(moves[x]) != len(tree[0]) or len(moves[x][form]) != size:
                return False
            for filling, y in enumerate(moves[x][form]):
                if kinds[y][form] != filling or (filling == kinds[x][form] and y != x):
                    return False
                if moves[y][form][kinds[x][form]] != x:
                    return False
    return True


def some_starts(random, tree, many=4):
    rows = rows_of(tree)
    return random.sample(rows, min(many, len(rows)))


NO_TREES = [
    (None, -1), (0, -1), ("01", -1), ((), -1), ((TREE[0],), -1), ((*TREE, 0), -1), (True, -1), (Refused(0), -1),
    ((None, TREE[1]), 0), ((0, TREE[1]), 0), ("01", -1), (((), ()), 0), (((2,), ()), 0), (((2,) * 5, TREE[1]), 0), (((2, 2, 0), TREE[1]), 0),
    (((2, 2, 5), TREE[1]), 0), (((2, 2, True), None), 0), (((2, None, 2), None), 0), (("2", "2"), 0), (((2, (2,)), ()), 0), (((-1, 2), ()), 0),
    ((TREE[0], None), 1), ((TREE[0], ()), 1), ((TREE[0], TREE[1][:1]), 1), ((TREE[0], TREE[1] + TREE[1][:1]), 1), ((TREE[0], "01"), 1),
    ((TREE[0], 2), 1), (((2, 2), TREE[1]), 1),
    ((TREE[0], (None, TREE[1][1])), 2), ((TREE[0], ((0, 1), TREE[1][1])), 2), ((TREE[0], ((0, 1, DIAGONAL, 0), None)), 2),
    ((TREE[0], ("010", None)), 2), ((TREE[0], ((1, 0, DIAGONAL), TREE[1][1])), 2), ((TREE[0], ((0, 0, DIAGONAL), TREE[1][1])), 2),
    ((TREE[0], ((0, 3, DIAGONAL), TREE[1][1])), 2), ((TREE[0], ((False, 1, DIAGONAL), TREE[1][1])), 2),
    ((TREE[0], ((0, True, DIAGONAL), TREE[1][1])), 2), ((TREE[0], ((-1, 1, DIAGONAL), TREE[1][1])), 2),
    ((TREE[0], ((0, 1, ((0, 0),)), TREE[1][1])), 2), ((TREE[0], ((0, 1, ((1, 1), (0, 0))), TREE[1][1])), 2),
    ((TREE[0], ((0, 1, ((0, 0), (1, 2))), None)), 2), ((TREE[0], ((0, 1, None), None)), 2), ((TREE[0], ((0, 1, ((0, 0), (1, True))), None)), 2),
    ((TREE[0], ((None, 1, DIAGONAL), TREE[1][1])), 2), ((TREE[0], ((0, "1", DIAGONAL), TREE[1][1])), 2),
    ((TREE[0], (TREE[1][0], None)), 3), ((TREE[0], (TREE[1][0], (1, 3, CORNER))), 3), ((TREE[0], (TREE[1][0], TREE[1][0])), 3),
    ((TREE[0], (TREE[1][1], TREE[1][0])), 3), ((TREE[0], (TREE[1][0], (0, 1, CORNER))), 3), ((TREE[0], (TREE[1][0], (1, 2, ((0, 0), (1, 0))))), 3),
    (((2, 2, 2, 2), ((0, 1, DIAGONAL), (1, 3, DIAGONAL), (1, 2, DIAGONAL))), 4),
    (((2, 2, 2, 2), ((0, 1, DIAGONAL), (0, 2, DIAGONAL), (1, 2, DIAGONAL))), 5),
    (((2, 2, 2, 2), ((1, 2, DIAGONAL), (1, 3, DIAGONAL), (2, 3, DIAGONAL))), 5),
]


class Trees(Checks, unittest.TestCase):
    def test_check_tree(self):
        for tree in TREES:
            self.told(tree, check_tree(tree))
            self.told(tree, check_tree(listed(tree)))
        for value, at in NO_TREES:
            self.raised(BadTree, "at", at, check_tree, value)
            self.raised(BadTree, "at", at, check_tree, listed(value))
        for value in any_values():
            self.assertRaises(BadTree, check_tree, value)
        self.assertEqual({len(tree[0]) for tree in TREES}, {2, 3, 4})

    def test_edges_that_do_not_lead_everywhere(self):
        # Of all three edges of four forms just those without a ring lead everywhere.
        ends = [(form, later) for later in range(4) for form in range(later)]
        right = 0
        for chosen in product(sorted(ends), repeat=3):
            if list(chosen) != sorted(set(chosen)):
                continue
            tree = ((2,) * 4, tuple((form, later, DIAGONAL) for form, later in chosen))
            reached = {0}
            for _ in range(3):
                reached |= {end for edge in chosen for end in edge if set(edge) & reached}
            if len(reached) == 4:
                self.told(tree, check_tree(tree))
                right += 1
            else:
                self.raised(BadTree, "at", 5, check_tree, tree)
        self.assertEqual(right, 16)

    def test_edge_bond(self):
        for tree in TREES:
            for at, (form, later, pairs) in enumerate(tree[1]):
                self.told((tree[0][form], tree[0][later], pairs), edge_bond(tree, at))
            refuses(self, Refused, "value", edge_bond, (tree,), lambda value: type(value) is int and 0 <= value < len(tree[1]))
        self.raised(Refused, "value", 2, edge_bond, TREE, 2)
        self.raised(Refused, "value", False, edge_bond, TREE, False)

    def test_fitting(self):
        for tree in TREES:
            self.told(tuple(rows_of(tree)), fitting(tree))


class Fewest(Checks, unittest.TestCase):
    def test_barring_and_fewest(self):
        random = Random(42)
        seen = {}
        for tree in TREES:
            for start in some_starts(random, tree, 8):
                at = bars(tree, start)
                seen[at] = seen.get(at, 0) + 1
                self.told(at, barring(tree, start))
                self.told(lcm(*tree[0]) if at is None else None, fewest_situations(tree, start))
        self.assertGreater(min(seen[None], seen[0], seen[1], seen[2]), 5)

    def test_no_starts(self):
        for tree in (TREE, ONES, TREES[-1]):
            rows = rows_of(tree)
            for call, rest in ((barring, ()), (fewest_situations, ()), (glued, ()), (glued_holds, (None,)), (led_through, (None, None))):
                refuses(self, Refused, "value", call, (tree,),
                        lambda value: isinstance(value, (list, tuple)) and any(same(tuple(value), row) for row in rows), rest)
        for value in ((0, 0), (0, 0, 0, 0), (0, 1, 0), (0, 0, 1), (0, 0, 2), (False, 0, 0), (0, 0, None), (-1, 0, 0), "000"):
            self.raised(Refused, "value", value, barring, TREE, value)
            self.raised(Refused, "value", value, glued_holds, TREE, value, MACHINE)


class Glued(Checks, unittest.TestCase):
    def test_glued(self):
        random = Random(43)
        seen = {True: 0, False: 0}
        for tree in TREES:
            for start in some_starts(random, tree):
                seen[bars(tree, start) is None] += 1
                if bars(tree, start) is not None:
                    self.raised(Refused, "value", start, glued, tree, start)
                    continue
                machine = glued(tree, start)
                self.assertTrue(is_tuples(machine))
                self.assertTrue(holds(tree, start, machine))
                self.told(machine, glued(listed(tree), list(start)))
                self.told(True, glued_holds(tree, start, machine))
                self.told(True, glued_holds(listed(tree), list(start), listed(machine)))
                if len(tree[0]) == 2 and machine[2]:
                    self.told(True, is_least(machine))
        self.assertGreater(min(seen.values()), 50)

    def test_what_does_not_hold(self):
        random = Random(44)
        seen = {True: 0, False: 0}
        for tree in TREES:
            for start in some_starts(random, tree, 2):
                if bars(tree, start) is not None:
                    self.told(False, glued_holds(tree, start, MACHINE))
                    continue
                first, kinds, moves = glued(tree, start)
                many = len(kinds)
                for _ in range(6):
                    changed = [first, listed(kinds), listed(moves)]
                    form, x = random.randrange(len(tree[0])), random.randrange(many)
                    what = random.randrange(4)
                    if what == 0:
                        changed[0] = random.randrange(many)
                    elif what == 1:
                        changed[1][x] = list(random.choice(rows_of(tree)))
                    elif what == 2:
                        changed[2][x][form][random.randrange(tree[0][form])] = random.randrange(many)
                    else:
                        y = random.randrange(many)
                        changed[2][x][form], changed[2][y][form] = changed[2][y][form], changed[2][x][form]
                    expected = holds(tree, start, changed)
                    seen[expected] += 1
                    self.told(expected, glued_holds(tree, start, changed))
        self.assertGreater(min(seen.values()), 100)

    def test_other_machines_hold(self):
        # Numbered in another way, or joined in another way between fillings, they hold as well.
        random = Random(45)
        for tree in TREES[::2]:
            for start in some_starts(random, tree, 2):
                if bars(tree, start) is not None:
                    continue
                first, kinds, moves = glued(tree, start)
                places = random.sample(range(len(kinds)), len(kinds))
                shows, leads = [None] * len(kinds), [None] * len(kinds)
                for x, place in enumerate(places):
                    shows[place] = kinds[x]
                    leads[place] = tuple(tuple(places[y] for y in row) for row in moves[x])
                self.told(True, glued_holds(tree, start, (places[first], shows, leads)))

    def test_any_value(self):
        one = (0, ((0, 0),), (((0,), (0,)),))
        self.told(True, glued_holds(ONES, (0, 0), one))
        for value in any_values():
            self.told(False, glued_holds(TREE, (0, 0, 0), value))
            self.told(same(listed(value), listed(one)), glued_holds(ONES, (0, 0), value))
            if value != 0 or isinstance(value, bool):
                self.told(False, glued_holds(TREE, (0, 0, 0), (value, *MACHINE[1:])))
            self.told(False, glued_holds(TREE, (0, 0, 0), (0, value, MACHINE[2])))
            self.told(False, glued_holds(TREE, (0, 0, 0), (0, (MACHINE[1][0], value), MACHINE[2])))
            self.told(False, glued_holds(TREE, (0, 0, 0), (0, MACHINE[1], value)))
            self.told(False, glued_holds(TREE, (0, 0, 0), (0, MACHINE[1], (MACHINE[2][0], value))))
            self.told(False, glued_holds(TREE, (0, 0, 0), (0, MACHINE[1], (MACHINE[2][0], (value, (0, 1), (0, 1))))))
            if value != 1 or isinstance(value, bool):
                self.told(False, glued_holds(TREE, (0, 0, 0), (0, MACHINE[1], (MACHINE[2][0], ((0, value), (0, 1), (0, 1))))))
        self.told(False, glued_holds(TREE, (1, 1, 1), MACHINE))
        self.told(True, glued_holds(TREE, (1, 1, 1), (1, *MACHINE[1:])))
        self.told(False, glued_holds(TREE, (1, 1, 0), (0, ((1, 1, 0), (0, 0, 0)), MACHINE[2])))
        # So many situations, no more: twice the same is none.
        twice = (0, MACHINE[1] * 2, (((0, 1),) * 3, ((0, 1),) * 3, ((2, 3),) * 3, ((2, 3),) * 3))
        self.told(False, glued_holds(TREE, (0, 0, 0), twice))


def nest(random, tree, machine, x, depth):
    """A run where settings are ended by the same ones set back, nest within nest, and where it leads."""
    _, kinds, moves = machine
    run = []
    while depth > 0 and random.random() < 0.7:
        form = random.randrange(len(tree[0]))
        filling = random.randrange(tree[0][form])
        inner, y = nest(random, tree, machine, moves[x][form][filling], depth - 1)
        run += [(form, filling), *inner, (form, kinds[x][form])]
        x = moves[y][form][kinds[x][form]]
    return run, x


class LedThrough(Checks, unittest.TestCase):
    def test_rows_shown(self):
        random = Random(46)
        for tree in TREES:
            for start in some_starts(random, tree, 2):
                if bars(tree, start) is not None:
                    self.raised(Refused, "value", MACHINE, led_through, tree, start, MACHINE, None)
                    continue
                machine = glued(tree, start)
                for many in (0, 1, 8, 60):
                    run = []
                    for _ in range(many):
                        form = random.randrange(len(tree[0]))
                        run.append((form, random.randrange(tree[0][form])))
                    rows, x = [start], machine[0]
                    for form, filling in run:
                        x = machine[2][x][form][filling]
                        rows.append(machine[1][x])
                    self.told(tuple(rows), led_through(tree, start, machine, run))
                    self.told(tuple(rows), led_through(listed(tree), list(start), listed(machine), tuple(run)))
                    for (form, filling), row in zip(run, rows[1:]):
                        self.assertEqual(row[form], filling)

    def test_nests_show_the_start_again(self):
        random, lengths = Random(47), []
        for tree in TREES:
            for start in some_starts(random, tree, 2):
                if bars(tree, start) is None:
                    machine = glued(tree, start)
                    run, x = nest(random, tree, machine, machine[0], 3)
                    lengths.append(len(run))
                    self.assertEqual(x, machine[0])
                    self.told(start, led_through(tree, start, machine, run)[-1])
        self.assertGreater(max(lengths), 10)

    def test_no_machines_no_runs(self):
        for value in any_values():
            self.raised(Refused, "value", value, led_through, TREE, (0, 0, 0), value, None)
        self.raised(Refused, "value", MACHINE, led_through, TREE, (1, 1, 1), MACHINE, None)
        self.raised(Refused, "value", MACHINE, led_through, TREE, (1, 1, 0), MACHINE, ())

        def right(value):
            return isinstance(value, (list, tuple)) and len(value) == 2 and all(type(part) is int for part in value) and (
                0 <= value[0] < 3 and 0 <= value[1] < 2)
        for value in any_values():
            if value not in ((), []):
                self.raised(Refused, "value", value, led_through, TREE, (0, 0, 0), MACHINE, value)
            if not right(value):
                run = [(0, 1), value]
                self.raised(Refused, "value", run, led_through, TREE, (0, 0, 0), MACHINE, run)
        for value in ((3, 0), (0, 2), (-1, 0), (True, 0), (0, False), (0,), (0, 0, 0)):
            run = ((2, 1), value)
            self.raised(Refused, "value", run, led_through, TREE, (0, 0, 0), MACHINE, run)


class Wrong(Checks, unittest.TestCase):
    def test_no_trees(self):
        calls = [(edge_bond, (None,)), (fitting, ()), (barring, (None,)), (fewest_situations, (None,)), (glued, (None,)),
                 (glued_holds, (None, None)), (led_through, (None, None, None))]
        for value, at in NO_TREES:
            for call, rest in calls:
                self.raised(BadTree, "at", at, call, value, *rest)

    def test_names_and_lists(self):
        self.told(TREE, check_tree(value=listed(TREE)))
        self.told((2, 2, CORNER), edge_bond(tree=TREE, at=1))
        self.told(((0, 0, 0), (1, 1, 0), (1, 1, 1)), fitting(tree=TREE))
        self.told(1, barring(tree=TREE, start=[1, 1, 0]))
        self.told(2, fewest_situations(tree=TREE, start=(0, 0, 0)))
        self.told(True, glued_holds(tree=TREE, start=(0, 0, 0), value=glued(tree=TREE, start=(0, 0, 0))))
        self.told(((0, 0, 0), (1, 1, 1)), led_through(tree=TREE, start=(0, 0, 0), machine=MACHINE, run=[[1, 1]]))
        for call, rest in ((fitting, ()), (edge_bond, (0,)), (barring, ((0, 0, 0),)), (fewest_situations, ((0, 0, 0),)),
                           (glued, ((1, 1, 1),)), (glued_holds, ((0, 0, 0), MACHINE)), (led_through, ((0, 0, 0), MACHINE, ((0, 1),)))):
            self.takes_lists(call, TREE, *rest)
        self.assertTrue(is_tuples(led_through(listed(TREE), [0, 0, 0], listed(MACHINE), [[0, 1]])))


if __name__ == "__main__":
    unittest.main()
