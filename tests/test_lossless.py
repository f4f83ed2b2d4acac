"""Promises 29 to 32: settings that are lost, walking back, forgetful machines, settings that are one to one."""

import unittest
from random import Random

from helpers import NO_MACHINES, RIGHT, Checks, any_values, full, is_tuples, listed, refuses, runs, same, settings, step, walk
from lossless_words import (
    back, classes_by_words, kept_by_words, loss_by_words, lossless_machine, lossless_machines, lost_there, mixed_machines,
    some_weight,
)
from test_alike import TWINS, alikeness
from test_machines import shown_bond
from setitback.alike import are_alike, classes, made_least
from setitback.errors import BadMachine, NoFilling, NoSituation, Refused
from setitback.finite import weight_of
from setitback.lossless import is_forgetful, is_lossless, kept, loss, lost_at, onto, walk_back
from setitback.machines import come, led, shown, trimmed

DESK = (0, ((0, 0), (0, 1), (1, 1)), (((0, 2), (0, 1)), ((0, 2), (0, 2)), ((1, 2), (0, 2))))
ONE = (0, ((0, 0),), (((0,), (0,)),))


class Losses(Checks, unittest.TestCase):
    def test_loss(self):
        lengths = {}
        for machine in mixed_machines():
            expected = loss_by_words(machine)
            self.told(expected, loss(machine))
            self.told(expected is None, is_lossless(machine))
            lengths[None if expected is None else len(expected[0])] = lengths.get(None if expected is None else len(expected[0]), 0) + 1
        self.assertGreater(min(lengths[None], lengths[0], lengths[1]), 40)
        self.assertGreater(lengths.get(2, 0) + lengths.get(3, 0), 0)

    def test_lost_at(self):
        found = {True: 0, False: 0}
        for machine in mixed_machines()[::2]:
            bond = shown_bond(machine[1])
            groups = alikeness(machine, bond)
            for run in list(runs(bond, 2))[::3] + [settings(bond) * 3]:
                expected = lost_there(machine, walk(machine, machine[0], run), groups)
                self.told(expected, lost_at(machine, run))
                found[expected is None] += 1
        self.assertGreater(min(found.values()), 300)

    def test_the_document_and_one_situation(self):
        self.told(((), (0, 1), ()), loss(DESK))
        self.told(((1, 0), ()), lost_at(DESK, ((0, 1),)))
        self.told(((0, 0), ()), lost_at(DESK, ((1, 1),)))
        self.told(None, loss(ONE))
        self.told(None, lost_at(ONE, ()))
        self.told(True, is_lossless(ONE))
        self.told(True, is_forgetful(ONE))

    def test_settings_of_what_stands(self):
        # Setting what stands leads to the twin, which a setting of the other side alone tells apart.
        kinds = ((0, 0), (0, 0), (0, 1), (0, 1))
        moves = (((1,), (0, 2)), ((0,), (1, 3)), ((2,), (0, 2)), ((2,), (1, 3)))
        machine = (0, kinds, moves)
        self.told(loss_by_words(machine), loss(machine))
        # The same with twins that nothing tells apart loses nothing: alike is enough.
        moves = (((1,), (1, 2)), ((0,), (0, 3)), ((3,), (0, 2)), ((2,), (1, 3)))
        self.told(None, loss((0, kinds, moves)))
        self.told(None, kept((0, kinds, moves)))

    def test_what_cannot_come_does_not_count(self):
        # Situations 1 and 2 lose, but cannot come.
        kinds = ((0, 0), (0, 0), (0, 1), (0, 1))
        moves = (((0,), (0, 3)), ((1,), (1, 2)), ((2,), (0, 2)), ((3,), (0, 3)))
        machine = (0, kinds, moves)
        self.told(None, loss(machine))
        self.told(loss_by_words((1, kinds, moves)), loss((1, kinds, moves)))

    def test_lossless_ones(self):
        for machine in lossless_machines(7, 120):
            self.told(None, loss(machine))
            self.told(True, is_lossless(machine))
            self.told(True, is_lossless(trimmed(machine)))
            self.told(True, is_lossless(made_least(machine)))


def nest(random, machine, x, depth):
    """A run that is a nest at a situation, and where it leads."""
    run = ()
    while depth > 0 and random.random() < 0.7:
        setting = random.choice(settings(shown_bond(machine[1])))
        inner, y = nest(random, machine, step(machine, x, setting), depth - 1)
        closing = (setting[0], machine[1][x][setting[0]])
        run, x = (*run, setting, *inner, closing), step(machine, y, closing)
    return run, x


class WalkedBack(Checks, unittest.TestCase):
    def test_by_words(self):
        random = Random(3)
        for machine in mixed_machines()[::2]:
            bond, many = shown_bond(machine[1]), len(machine[1])
            for x in range(many):
                for length in (0, 1, 2, 5):
                    run = tuple(random.choices(settings(bond), k=length))
                    stood = [machine[1][walk(machine, x, run[:at])] for at in range(length)]
                    expected = tuple((run[at][0], stood[at][run[at][0]]) for at in reversed(range(length)))
                    self.told(expected, walk_back(machine, x, run))
                    self.told(expected, walk_back(listed(machine), x, listed(run)))

    def test_leads_back_where_nothing_is_lost(self):
        random = Random(4)
        for machine in lossless_machines(8, 80):
            bond = shown_bond(machine[1])
            for x in random.sample(come(machine), min(3, len(come(machine)))):
                run = tuple(random.choices(settings(bond), k=random.choice((1, 2, 7, 60))))
                there = led(machine, x, run)
                self.told(True, are_alike(machine, x, led(machine, there, walk_back(machine, x, run))))

    def test_nests_lead_back_where_nothing_is_lost(self):
        random, lengths = Random(5), []
        for machine in lossless_machines(9, 80):
            for _ in range(4):
                x = random.choice(come(machine))
                run, there = nest(random, machine, x, 3)
                lengths.append(len(run))
                self.told(there, led(machine, x, run))
                self.told(True, are_alike(machine, x, there))
        self.assertGreater(max(lengths), 10)

    def test_does_not_lead_back_where_something_is_lost(self):
        for machine in mixed_machines():
            lost = loss(machine)
            if lost is not None and lost[1][1] != shown(machine, led(machine, machine[0], lost[0]))[lost[1][0]]:
                run = (*lost[0], lost[1])
                x = led(machine, machine[0], lost[0])
                there = led(machine, x, (lost[1], *walk_back(machine, x, (lost[1],))))
                self.assertEqual(there, back(machine, x, lost[1]))
                self.assertFalse(are_alike(machine, x, there), run)

    def test_situations_that_cannot_come(self):
        machine = (0, ((0, 0), (0, 1), (0, 0)), (((0,), (0, 1)), ((1,), (0, 1)), ((2,), (2, 1))))
        self.told(((1, 1), (1, 0)), walk_back(machine, 2, ((1, 1), (1, 1))))


class Forgetful(Checks, unittest.TestCase):
    def test_kept(self):
        lengths = {}
        for machine in mixed_machines():
            expected = kept_by_words(machine)
            self.told(expected, kept(machine))
            self.told(expected is None, is_forgetful(machine))
            key = None if expected is None else min(1, len(expected[0]))
            lengths[key] = lengths.get(key, 0) + 1
        self.assertGreater(min(lengths.values()), 20)
        self.assertEqual(len(lengths), 3)
        self.told(((), (0, 1), (0, 0), ()), kept(DESK))

    def test_forgetful_is_lossless_if_settings_of_what_stands_do_nothing(self):
        seen = {True: 0, False: 0}
        for machine in mixed_machines():
            if is_forgetful(machine):
                groups = alikeness(machine, shown_bond(machine[1]))
                nothing = all(step(machine, x, (side, machine[1][x][side])) in groups[x] for x in come(machine) for side in (0, 1))
                self.told(nothing, is_lossless(machine))
                seen[nothing] += 1
        self.assertGreater(seen[True], 20)
        self.assertGreater(seen[False], 5)

    def test_lossless_ones_that_do_not_forget(self):
        random = Random(6)
        many = 0
        for _ in range(40):
            weight = some_weight(random, full(3, 1), 3)
            machine = lossless_machine(random, full(3, 1), weight)
            self.told(None, loss(machine))
            self.told(kept_by_words(machine), kept(machine))
            bond = full(3, 2)
            machine = lossless_machine(random, bond, some_weight(random, bond, 1))
            self.told(None, loss(machine))
            many += kept(machine) is not None
        self.assertGreater(many, 10)

    def test_the_same_setting_twice(self):
        # A setting that leads to and fro between two that show unlike pairs.
        machine = (0, ((0, 0), (0, 1)), (((1,), (0, 1)), ((0,), (0, 1))))
        self.told(((), (0, 0), (0, 0), ()), kept(machine))
        self.told(kept_by_words(machine), kept(machine))
        # Between two that another setting alone tells apart.
        kinds = ((0, 0), (0, 0), (0, 1), (1, 0), (1, 1))
        moves = (((1, 3), (0, 2)), ((0, 4), (0, 2)), ((0, 3), (0, 2)), ((1, 3), (3, 4)), ((1, 4), (3, 4)))
        machine = (0, kinds, moves)
        self.told(((), (0, 0), (0, 0), ((0, 1),)), kept(machine))
        self.told(kept_by_words(machine), kept(machine))


class OneToOne(Checks, unittest.TestCase):
    def test_onto(self):
        for machine in mixed_machines()[::2]:
            bond, found = shown_bond(machine[1]), classes_by_words(machine)
            for side in (0, 1):
                for one in range(bond[side]):
                    for other in range(bond[side]):
                        ahead = [lot for lot in found if machine[1][lot[0]][side] == one]
                        behind = [step(machine, lot[0], (side, other)) for lot in ahead]
                        expected = tuple(next(at for at, lot in enumerate(found) if y in lot) for y in behind)
                        self.told(expected, onto(machine, side, one, other))

    def test_one_to_one_where_nothing_is_lost(self):
        for machine in lossless_machines(11, 80):
            bond, found = shown_bond(machine[1]), classes(machine)
            for side in (0, 1):
                lots = [[at for at, lot in enumerate(found) if machine[1][lot[0]][side] == filling] for filling in range(bond[side])]
                self.assertEqual(len({len(lot) for lot in lots}), 1)
                for one in range(bond[side]):
                    for other in range(bond[side]):
                        there = onto(machine, side, one, other)
                        self.assertEqual(sorted(there), lots[other])
                        home = onto(machine, side, other, one)
                        self.assertEqual([home[lots[other].index(place)] for place in there], lots[one])
            shares = weight_of(bond, machine)
            self.assertEqual(sum(shares), len(found))

    def test_a_filling_that_cannot_come(self):
        # Filling 1 of side 0 comes behind a setting, but no class shows it at the start of this walk.
        self.told((1,), onto(TWINS, 0, 0, 1))
        self.told((0, 1), onto(TWINS, 1, 0, 0))
        self.told((0,), onto(ONE, 1, 0, 0))


class Wrong(Checks, unittest.TestCase):
    CALLS = [(lost_at, (None,)), (loss, ()), (is_lossless, ()), (walk_back, (None, None)), (kept, ()), (is_forgetful, ()),
             (onto, (None, None, None))]

    def test_no_machines(self):
        for call, rest in self.CALLS:
            for value, at in NO_MACHINES:
                self.raised(BadMachine, "at", at, call, value, *rest)
            for value in any_values():
                if not same(listed(value), listed(ONE)):
                    self.assertRaises(BadMachine, call, value, *rest)

    def test_no_runs(self):
        def right(value):
            return isinstance(value, (list, tuple)) and any(same(tuple(value), setting) for setting in settings(shown_bond(RIGHT[1])))
        for call, ahead in ((lost_at, (RIGHT,)), (walk_back, (RIGHT, 2))):
            for value in any_values():
                if not isinstance(value, (list, tuple)):
                    self.raised(Refused, "value", value, call, *ahead, value)
                if not right(value):
                    self.raised(Refused, "value", value, call, *ahead, (value,))
                    self.raised(Refused, "value", value, call, *ahead, [[0, 1], value, None])
        self.raised(Refused, "value", 0, lost_at, RIGHT, (0, 0))

    def test_no_situations_sides_and_fillings(self):
        refuses(self, NoSituation, "value", walk_back, (RIGHT,), lambda value: type(value) is int and value in (0, 1, 2), (None,))
        refuses(self, NoSituation, "value", walk_back, (RIGHT,), lambda value: type(value) is int and value in (0, 1, 2), ((),))
        self.raised(NoSituation, "value", 3, walk_back, RIGHT, 3, None)

        def small(value):
            return type(value) is int and value in (0, 1)
        refuses(self, Refused, "value", onto, (RIGHT,), small, (None, None))
        refuses(self, NoFilling, "value", onto, (RIGHT, 0), small, (None,))
        refuses(self, NoFilling, "value", onto, (RIGHT, 1), small, (0,))
        refuses(self, NoFilling, "value", onto, (RIGHT, 1, 0), small)
        self.raised(NoFilling, "value", 2, onto, RIGHT, 1, 2, 3)
        self.raised(Refused, "value", True, onto, RIGHT, True, 0, 0)
        self.raised(NoFilling, "value", False, onto, RIGHT, 1, 0, False)

    def test_names_and_lists(self):
        self.told(((0, 1), ()), lost_at(machine=DESK, run=()))
        self.told(((), (0, 1), ()), loss(machine=DESK))
        self.told(False, is_lossless(machine=DESK))
        self.told(((1, 1), (0, 0)), walk_back(machine=DESK, situation=0, run=((0, 1), (1, 0))))
        self.told(((), (0, 1), (0, 0), ()), kept(machine=DESK))
        self.told(False, is_forgetful(machine=DESK))
        self.told((1,), onto(machine=TWINS, side=0, one=0, other=1))
        for machine in mixed_machines()[::40]:
            for call in (loss, kept, is_lossless, is_forgetful):
                self.takes_lists(call, machine)
                self.assertTrue(is_tuples(call(listed(machine))))
            self.takes_lists(lost_at, machine, ((0, 0), (1, 0)))
            self.takes_lists(walk_back, machine, 0, ((0, 0), (1, 0)))
            self.takes_lists(onto, machine, 1, 0, 0)
            self.assertTrue(is_tuples(lost_at(listed(machine), [[1, 0]])))

    def test_forty_situations(self):
        random = Random(13)
        bond = full(2, 2)
        machine = lossless_machine(random, bond, (7, 13, 13, 7))
        self.told(None, loss(machine))
        run = tuple(random.choices(settings(bond), k=60))
        self.told(True, are_alike(machine, machine[0], led(machine, machine[0], run + walk_back(machine, machine[0], run))))
        self.told(None, lost_at(machine, run))


if __name__ == "__main__":
    unittest.main()
