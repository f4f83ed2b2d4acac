"""Promises 72 and 73: worlds of all three cases, and the main theorem."""

import time
import unittest
from random import Random

from case_words import CORNER, DESK, SQUARE, STAR, case_by_words, some_cases
from helpers import EVEN, VIEW, Checks, any_values, full, is_tuples, listed, refuses, same, settings
from test_bonds import NO_BONDS
from setitback.errors import BadBond, Refused
from setitback.finite import least_machine
from setitback.growing import Growing
from setitback.hotel import Hotel
from setitback.lossless import is_lossless
from setitback.meaning import within
from setitback.weights import balanced
from setitback.world import World


class Words:
    """The machine of a case, each step told by the machines that it is made of."""

    def __init__(self, bond, start):
        self.case = case_by_words(bond, start)
        if self.case[0] == "bounded":
            self.machine = least_machine(bond, start)
            self.begin = self.machine[0]
        else:
            self.machine = Growing(bond, start) if self.case[0] == "grows" else Hotel(bond, start)
            self.begin = 0

    def shown(self, x):
        return self.machine[1][x] if self.case[0] == "bounded" else self.machine.shown(x)

    def put(self, x, setting):
        return self.machine[2][x][setting[0]][setting[1]] if self.case[0] == "bounded" else self.machine.put(x, setting)


def some_run(random, bond, many):
    return tuple(random.choices(settings(bond), k=many))


class Worlds(Checks, unittest.TestCase):
    def test_attributes_and_begin(self):
        for bond, start in some_cases(60):
            world, words = World(listed(bond), list(start)), Words(bond, start)
            self.told(bond, world.bond)
            self.told(start, world.start)
            self.told(words.case, world.case)
            self.told(words.begin, world.situation)
            self.told((start, words.begin), world.tells())
            self.assertTrue(is_tuples((world.bond, world.start, world.case, world.tells())))
        self.told(((1, 1), 1), World(bond=SQUARE, start=(1, 1)).tells())
        # A bounded world need not begin at situation 0.
        self.assertEqual(balanced(VIEW, (0, 1)), (2, 1, 1, 2))
        self.told(((0, 1), 2), World(VIEW, (0, 1)).tells())

    def test_take(self):
        random = Random(72)
        for bond, start in some_cases(40):
            world, words = World(bond, start), Words(bond, start)
            x = words.begin
            for setting in some_run(random, bond, 40):
                x = words.put(x, setting)
                told = world.take(random.choice((tuple, list))(setting))
                self.told((words.shown(x), x), told)
                self.told(told, world.tells())
                self.told(x, world.situation)
                self.assertEqual(told[0][setting[0]], setting[1])
                self.assertIn(told[0], bond[2])
            self.told(bond, world.bond)
            self.told(start, world.start)
            self.told(words.case, world.case)

    def test_take_all(self):
        random = Random(73)
        for bond, start in some_cases(30):
            world, other = World(bond, start), World(bond, start)
            for many in (0, 1, 5, 20):
                run = some_run(random, bond, many)
                for setting in run:
                    other.take(setting)
                self.told(other.tells(), world.take_all(listed(run)))
                self.told(other.tells(), world.tells())

    def test_backs(self):
        random = Random(74)
        for bond, start in some_cases(30):
            world, words = World(bond, start), Words(bond, start)
            x = words.begin
            for many in (0, 1, 2, 15):
                run = some_run(random, bond, many)
                expected, y = [], x
                for setting in run:
                    expected.insert(0, (setting[0], words.shown(y)[setting[0]]))
                    y = words.put(y, setting)
                self.told(tuple(expected), world.backs(run))
                self.told(tuple(expected), world.backs(listed(run)))
                # It takes nothing.
                self.told((words.shown(x), x), world.tells())
                self.told((words.shown(y), y), world.take_all(run))
                x = y

    def test_go(self):
        random = Random(75)
        for bond, start in some_cases(30):
            world, words = World(bond, start), Words(bond, start)
            top = words.case[1] if words.case[0] == "bounded" else 10 ** 12
            for x in (0, top - 1, random.randrange(top), random.randrange(top)):
                self.told((words.shown(x), x), world.go(x))
                self.told((words.shown(x), x), world.tells())
                setting = random.choice(settings(bond))
                y = words.put(x, setting)
                self.told((words.shown(y), y), world.take(setting))
        hotel = World(CORNER, (0, 1))
        self.told(((1, 1), 10 ** 40), hotel.go(10 ** 40))
        self.told(((0, 0), 10 ** 40 + 1), hotel.take((1, 0)))

    def test_go_nowhere(self):
        for bond, start in ((SQUARE, (1, 1)), (CORNER, (0, 1)), (DESK, (0, 0)), (full(1, 1), (0, 0))):
            world = World(bond, start)
            world.take((0, 0))
            stood = world.tells()
            limit = world.case[1] if world.case[0] == "bounded" else 10 ** 31
            refuses(self, Refused, "value", world.go, (), lambda value: type(value) is int and 0 <= value < limit)
            for value in (-1, True, False, None, (0,)):
                self.raised(Refused, "value", value, world.go, value)
            self.told(stood, world.tells())
        self.raised(Refused, "value", 2, World(SQUARE, (0, 0)).go, 2)
        self.raised(Refused, "value", 6, World(VIEW, (0, 0)).go, 6)
        self.told(((1, 2), 5), World(VIEW, (0, 0)).go(situation=5))

    def test_twin(self):
        random = Random(76)
        for bond, start in some_cases(20):
            world = World(bond, start)
            world.take_all(some_run(random, bond, 9))
            twin = world.twin()
            self.assertIsNot(twin, world)
            for attribute in ("bond", "start", "case", "situation"):
                self.told(getattr(world, attribute), getattr(twin, attribute))
            stood = world.tells()
            run = some_run(random, bond, 9)
            told = twin.take_all(run)
            # The one is as it was while the other goes on, and then goes on likewise.
            self.told(stood, world.tells())
            self.told(told, world.take_all(run))
            world.go(0)
            self.told(told, twin.tells())


class WrongValues(Checks, unittest.TestCase):
    def test_no_worlds(self):
        for value, at in NO_BONDS:
            self.raised(BadBond, "at", at, World, value, None)
        for bond in (EVEN, DESK):
            def right(value):
                return any(same(value, pair) or same(value, list(pair)) for pair in bond[2])
            refuses(self, Refused, "value", World, (bond,), right)
        for value in ((0, 1), (2, 2), (True, 1), (1, False), (0,), (0, 0, 0)):
            self.raised(Refused, "value", value, World, EVEN, value)

    def test_no_settings_change_nothing(self):
        for bond, start in ((SQUARE, (1, 1)), (CORNER, (0, 1)), (DESK, (0, 0))):
            world = World(bond, start)
            world.take((0, 0))
            stood = world.tells()

            def right(value):
                return any(same(value, setting) or same(value, list(setting)) for setting in settings(bond))
            refuses(self, Refused, "value", world.take, (), right)
            for value in ((2, 0), (0, bond[0]), (1, bond[1]), (True, 0), (0, False), (0,), (0, 0, 0), [0, -1], None):
                self.raised(Refused, "value", value, world.take, value)
                for call in (world.take_all, world.backs):
                    # All or none: what stands ahead of the wrong one is not taken either.
                    self.raised(Refused, "value", value, call, [(0, 1), (1, 1), value, (0, 0)])
                    self.raised(Refused, "value", value, call, ((0, 1), value, (5, 5)))
            for call in (world.take_all, world.backs):
                refuses(self, Refused, "value", call, (), lambda value: isinstance(value, (list, tuple)))
                for value in any_values():
                    if not right(value):
                        self.raised(Refused, "value", value, call, [(1, 0), value])
            self.told(stood, world.tells())

    def test_names_and_later_changes(self):
        world = World(bond=CORNER, start=[0, 1])
        self.told(((1, 1), 2), world.take(setting=(0, 1)))
        self.told(((0, 0), 3), world.take_all(run=[[1, 0]]))
        self.told(((0, 0),), world.backs(run=[(0, 1)]))
        bond, start, run = listed(CORNER), [0, 1], [[0, 1], [1, 0]]
        world = World(bond, start)
        bond[2].append([9, 9])
        start[0] = 7
        self.told((CORNER, (0, 1)), (world.bond, world.start))
        world.take_all(run)
        run[0][0] = 5
        self.told(((0, 0), 3), world.tells())


def ball(world, bond, many):
    """By number of settings how many situations come within it, by trying."""
    seen, level, sizes = {world.situation: True}, [world.situation], [1]
    for _ in range(many):
        following = []
        for x in level:
            for setting in settings(bond):
                world.go(x)
                y = world.take(setting)[1]
                if y not in seen:
                    seen[y] = True
                    following.append(y)
        level = following
        sizes.append(len(seen))
    return sizes


class MainTheorem(Checks, unittest.TestCase):
    def test_backs_lead_back(self):
        random = Random(77)
        for bond, start in some_cases(30):
            world = World(bond, start)
            stood = world.tells()
            for many in (1, 2, 10, 60):
                run = some_run(random, bond, many)
                back = world.backs(run)
                self.assertEqual([side for side, _ in back], [side for side, _ in reversed(run)])
                world.take_all(run)
                self.told(stood, world.take_all(back))

    def test_whatever_stands_between_is_walked_back_in_its_turn(self):
        random = Random(78)
        for bond, start in some_cases(20):
            world = World(bond, start)
            stood = world.tells()
            turns = []
            for _ in range(6):
                run = some_run(random, bond, random.randrange(8))
                turns.append((world.backs(run), world.tells()))
                world.take_all(run)
            for back, told in reversed(turns):
                self.told(told, world.take_all(back))
            self.told(stood, world.tells())

    def test_loses_nothing_and_forgets(self):
        random = Random(79)
        for bond, start in some_cases(25):
            world = World(bond, start)
            for _ in range(15):
                x, setting = world.tells(), random.choice(settings(bond))
                side, filling = setting
                y = world.take(setting)
                if filling == x[0][side]:
                    self.told(x, y)
                self.told(x, world.take((side, x[0][side])))
                other = (side, random.randrange(bond[side]))
                alone = world.twin().take(other)
                world.take(setting)
                self.told(alone, world.take(other))
                world.take(random.choice(settings(bond)))

    def test_the_situation_alone_tells_all_that_comes(self):
        random = Random(80)
        for bond, start in some_cases(20):
            world = World(bond, start)
            world.take_all(some_run(random, bond, 12))
            other = World(bond, start)
            self.told(world.tells(), other.go(world.situation))
            for setting in some_run(random, bond, 20):
                self.told(world.take(setting), other.take(setting))

    def test_how_many_situations(self):
        for bond, start in some_cases(25):
            sizes = ball(World(bond, start), bond, 5)
            for many, found in enumerate(sizes):
                low, high = within(bond, start, many)
                self.assertLessEqual(low, found)
                self.assertLessEqual(found, high)
        # Bounded: exactly the least common multiple, and the machine is a lossless one of as many.
        for bond, start in some_cases(25):
            case = case_by_words(bond, start)
            if case[0] == "bounded":
                self.assertLessEqual(ball(World(bond, start), bond, 30)[-1], case[1])
                self.assertTrue(is_lossless(least_machine(bond, start)))
                self.assertEqual(len(least_machine(bond, start)[1]), case[1])

    def test_known_balls(self):
        self.assertEqual(ball(World(CORNER, (0, 1)), CORNER, 6), [1, 3, 5, 7, 9, 11, 13])
        self.assertEqual(ball(World(full(2, 3), (0, 0)), full(2, 3), 4)[-1], 6)

    def test_in_a_time_that_a_person_waits_for(self):
        random, begun = Random(81), time.perf_counter()
        for bond, start in ((STAR, (0, 0)), (DESK, (0, 0)), (CORNER, (0, 1)), (full(6, 6), (0, 0))) + some_cases(6):
            world = World(bond, start)
            for setting in some_run(random, bond, 60):
                world.take(setting)
            if world.case[0] != "bounded":
                world.go(10 ** 12)
                world.take_all(some_run(random, bond, 10))
        self.assertLess(time.perf_counter() - begun, 10)


if __name__ == "__main__":
    unittest.main()
