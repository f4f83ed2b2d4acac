"""Promises 37 to 40: the hotel, its ranks and settings, and how many situations come within some settings."""

import unittest
from math import lcm
from random import Random

from helpers import Checks, any_values, full, is_even, is_tuples, listed, same, settings, small_bonds, some_bonds
from lossless_words import crosses
from test_bonds import NO_BONDS
from setitback.errors import BadBond, NoFilling, NoSituation, Refused
from setitback.hotel import Hotel
from setitback.weights import balanced

CORNER = (2, 2, ((0, 0), (0, 1), (1, 1)))


def second_cases():
    bonds = [bond for bond in list(small_bonds(3)) + some_bonds(31, 900, 6) if is_even(bond)]
    return [(bond, start) for bond in bonds for start in bond[2] if crosses(bond, start)]


CASES = second_cases()


class HotelByWords:
    """The first situations of a hotel, shown one by one."""

    def __init__(self, bond, start, many):
        layer = [pair for pair, times in zip(bond[2], balanced(bond, None)) for _ in range(times)]
        self.bond, self.layer = bond, tuple(layer)
        self.kinds = [start] + layer * many

    def rank(self, x, side):
        return sum(kind[side] == self.kinds[x][side] for kind in self.kinds[:x])

    def nth(self, side, filling, rank):
        return [x for x, kind in enumerate(self.kinds) if kind[side] == filling][rank]

    def put(self, x, setting):
        return self.nth(*setting, self.rank(x, setting[0]))


class Attributes(Checks, unittest.TestCase):
    def test_attributes(self):
        self.assertGreater(len(CASES), 200)
        for bond, start in CASES:
            hotel = Hotel(listed(bond), list(start))
            self.told(bond, hotel.bond)
            self.told(start, hotel.start)
            self.told(HotelByWords(bond, start, 1).layer, hotel.kinds)
            self.assertEqual(len(hotel.kinds), lcm(bond[0], bond[1]))
            self.assertTrue(is_tuples(hotel.kinds))

    def test_starts_that_are_not_of_the_second_case(self):
        many = 0
        for bond in list(small_bonds(3)) + some_bonds(32, 60):
            for start in bond[2]:
                if not is_even(bond) or not crosses(bond, start):
                    self.raised(Refused, "value", start, Hotel, bond, start)
                    many += 1
        self.assertGreater(many, 500)


class Ranks(Checks, unittest.TestCase):
    def test_shown_layer_rank_nth(self):
        for bond, start in CASES[::3]:
            hotel, words = Hotel(bond, start), HotelByWords(bond, start, 3)
            size = len(words.layer)
            for x in range(min(3 * size + 1, 40)):
                self.told(words.kinds[x], hotel.shown(x))
                self.told(None if x == 0 else (x - 1) // size, hotel.layer(x))
                for side in (0, 1):
                    rank = words.rank(x, side)
                    self.told(rank, hotel.rank(x, side))
                    self.told(x, hotel.nth(side, words.kinds[x][side], rank))

    def test_great_ones(self):
        random = Random(3)
        for bond, start in CASES[::5]:
            hotel = Hotel(bond, start)
            size = lcm(bond[0], bond[1])
            for x in (10 ** 40, random.randrange(10 ** 40), 10 ** 39 + random.randrange(10 ** 6)):
                near = (x - 1) % size + 1
                self.told(hotel.shown(near), hotel.shown(x))
                self.told((x - 1) // size, hotel.layer(x))
                for side in (0, 1):
                    # Each filling of a side has equally many situations in each layer.
                    rank = hotel.rank(near, side) + (x - near) // size * (size // bond[side])
                    self.told(rank, hotel.rank(x, side))
                    self.told(x, hotel.nth(side, hotel.shown(x)[side], rank))
                for setting in settings(bond):
                    y = hotel.put(x, setting)
                    self.assertEqual(hotel.shown(y)[setting[0]], setting[1])
                    self.assertEqual(hotel.rank(y, setting[0]), hotel.rank(x, setting[0]))


class Settings(Checks, unittest.TestCase):
    def test_put(self):
        for bond, start in CASES[::3]:
            hotel, words = Hotel(bond, start), HotelByWords(bond, start, 5)
            for x in range(min(2 * len(words.layer) + 1, 25)):
                for setting in settings(bond):
                    self.told(words.put(x, setting), hotel.put(x, setting))
                    self.told(words.put(x, setting), hotel.put(x, list(setting)))

    def test_led(self):
        random = Random(4)
        for bond, start in CASES[::3]:
            hotel = Hotel(bond, start)
            for x, many in ((0, 40), (random.randrange(100), 7), (10 ** 40, 40), (5, 0)):
                run = tuple(random.choices(settings(bond), k=many))
                there = x
                for setting in run:
                    there = hotel.put(there, setting)
                self.told(there, hotel.led(x, run))
                self.told(there, hotel.led(x, listed(run)))

    def test_loses_nothing_and_forgets(self):
        random = Random(5)
        for bond, start in CASES[::2]:
            hotel = Hotel(bond, start)
            for x in [*range(12), random.randrange(10 ** 9)]:
                for side, filling in settings(bond):
                    y = hotel.put(x, (side, filling))
                    stood = hotel.shown(x)[side]
                    self.assertEqual(hotel.shown(y)[side], filling)
                    self.assertIn(hotel.shown(y), bond[2])
                    self.assertEqual(hotel.put(y, (side, stood)), x)
                    if filling == stood:
                        self.assertEqual(y, x)
                    for other in range(bond[side]):
                        self.assertEqual(hotel.put(y, (side, other)), hotel.put(x, (side, other)))
                    # A setting leads at most one layer on, or back.
                    layers = [-1 if hotel.layer(z) is None else hotel.layer(z) for z in (x, y)]
                    self.assertLessEqual(abs(layers[0] - layers[1]), 1)

    def test_walked_back(self):
        random = Random(6)
        for bond, start in CASES[::4]:
            hotel = Hotel(bond, start)
            x, run = 0, []
            for setting in random.choices(settings(bond), k=20):
                run.insert(0, (setting[0], hotel.shown(x)[setting[0]]))
                x = hotel.put(x, setting)
            self.told(0, hotel.led(x, run))


class Within(Checks, unittest.TestCase):
    def test_within(self):
        for bond, start in CASES[::4]:
            hotel = Hotel(bond, start)
            for many in (0, 1, 2, 7, 1000, 10 ** 30):
                self.told((many + 1, 1 + many * lcm(bond[0], bond[1])), hotel.within(many))

    def test_as_many_situations_lie_between(self):
        for bond, start in CASES[::6]:
            hotel = Hotel(bond, start)
            come = {0}
            for many in range(7):
                low, high = hotel.within(many)
                self.assertLessEqual(low, len(come))
                self.assertLessEqual(len(come), high)
                come |= {hotel.put(x, setting) for x in come for setting in settings(bond)}


class Wrong(Checks, unittest.TestCase):
    def test_no_bonds_no_starts(self):
        for value, at in NO_BONDS:
            self.raised(BadBond, "at", at, Hotel, value, None)
        for value in any_values():
            self.raised(Refused, "value", value, Hotel, CORNER, value)
        for value in ((0, 0), (1, 1), (1, 0), (0, 2), (False, 1), (0, True)):
            self.raised(Refused, "value", value, Hotel, CORNER, value)
        self.raised(Refused, "value", (0, 0), Hotel, full(2, 1), (0, 0))

    def test_no_situations(self):
        hotel = Hotel(CORNER, (0, 1))
        calls = [(hotel.shown, ()), (hotel.layer, ()), (hotel.rank, (None,)), (hotel.put, (None,)), (hotel.led, (None,))]
        for value in any_values():
            if not (type(value) is int and value >= 0):
                for call, rest in calls:
                    self.raised(NoSituation, "value", value, call, value, *rest)

    def test_no_sides_fillings_ranks(self):
        hotel = Hotel(CORNER, (0, 1))
        for value in any_values():
            small = type(value) is int and value in (0, 1)
            if not small:
                self.raised(Refused, "value", value, hotel.rank, 0, value)
                self.raised(Refused, "value", value, hotel.rank, 10 ** 30, value)
                self.raised(Refused, "value", value, hotel.nth, value, None, None)
                self.raised(NoFilling, "value", value, hotel.nth, 1, value, None)
            if not (type(value) is int and value >= 0):
                self.raised(Refused, "value", value, hotel.nth, 0, 1, value)
                self.raised(Refused, "value", value, hotel.within, value)
        self.raised(NoFilling, "value", 2, hotel.nth, 0, 2, None)
        self.raised(NoFilling, "value", True, hotel.nth, 0, True, 0)
        self.raised(Refused, "value", False, hotel.nth, False, 0, 0)

    def test_no_settings_no_runs(self):
        hotel = Hotel(CORNER, (0, 1))

        def right(value):
            return isinstance(value, (list, tuple)) and any(same(tuple(value), setting) for setting in settings(CORNER))
        for value in any_values():
            if not right(value):
                self.raised(Refused, "value", value, hotel.put, 3, value)
                self.raised(Refused, "value", value, hotel.led, 3, [(0, 1), value, None])
                self.raised(Refused, "value", value, hotel.led, 3, (value,))
            if not isinstance(value, (list, tuple)):
                self.raised(Refused, "value", value, hotel.led, 3, value)
        for value in ((0, 2), (2, 0), (1, -1), (True, 0), (0, False), (0,), (0, 0, 0)):
            self.raised(Refused, "value", value, hotel.put, 0, value)

    def test_names_and_equal_calls(self):
        hotel = Hotel(bond=CORNER, start=(0, 1))
        self.told((0, 1), hotel.shown(situation=0))
        self.told(None, hotel.layer(situation=0))
        self.told(5 * 10 ** 29, hotel.rank(situation=10 ** 30, side=1))
        self.told(0, hotel.nth(side=0, filling=0, rank=0))
        self.told(2, hotel.put(situation=0, setting=[0, 1]))
        self.told(3, hotel.led(situation=0, run=[[0, 1], [1, 0]]))
        self.told((8, 15), hotel.within(many=7))
        self.told(10 ** 30, hotel.led(10 ** 30, ((1, 0), (0, 0), (1, 1))))
        # A list that is changed later does not matter.
        bond = listed(CORNER)
        hotel = Hotel(bond, [0, 1])
        bond[2][0][0] = 1
        bond[0] = 5
        self.told((CORNER, ((0, 0), (1, 1))), (hotel.bond, hotel.kinds))
        self.told([2, 3, 2, 0], [hotel.put(0, (0, 1)), hotel.put(2, (1, 0)), hotel.put(3, (1, 1)), hotel.put(2, (0, 0))])


if __name__ == "__main__":
    unittest.main()
