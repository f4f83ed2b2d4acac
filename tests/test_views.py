"""Promises 51 to 53: views, what setting them costs, and the complement where all fibres are alike."""

import unittest
from fractions import Fraction
from itertools import product
from math import ceil

from helpers import DESK, Checks, any_values, best, full, is_tuples, listed, parts, refuses, same, small_bonds, some_bonds
from test_bonds import NO_BONDS
from setitback.bonds import check_bond
from setitback.errors import BadBond, NoFilling, Refused
from setitback.finite import least_machine
from setitback.lossless import is_forgetful, is_lossless
from setitback.machines import check_machine
from setitback.shares import greatest
from setitback.views import (
    check_view, complement, fewest, fibres, from_complement, is_view, put_back, spread, view_bond, view_of,
)


def is_one(values):
    return set(values) == set(range(max(values) + 1))


VIEWS = [values for many in range(1, 6) for values in product(range(many), repeat=many) if is_one(values)]
VIEWS += [values for values in product(range(6), repeat=6) if is_one(values)][::37]
ALIKE = [view for view in VIEWS if len({view.count(t) for t in view}) == 1]
OTHERS = [view for view in VIEWS if view not in ALIKE]


class Views(Checks, unittest.TestCase):
    def test_check_view(self):
        for many in range(1, 5):
            for values in product(range(-1, 7), repeat=many):
                if min(values) >= 0 and max(values) < 6 and is_one(values):
                    self.told(values, check_view(values))
                    self.told(values, check_view(list(values)))
                else:
                    self.raised(Refused, "value", values, check_view, values)
        self.told((5, 4, 3, 2, 1, 0), check_view([5, 4, 3, 2, 1, 0]))
        self.raised(Refused, "value", (0,) * 7, check_view, (0,) * 7)
        self.raised(Refused, "value", (0, 1, 2, 3, 4, 5, 6), check_view, (0, 1, 2, 3, 4, 5, 6))

    def test_bonds_of_views(self):
        for view in VIEWS:
            bond = view_bond(view)
            self.told((len(view), max(view) + 1, tuple((s, t) for s, t in enumerate(view))), bond)
            self.told(bond, check_bond(bond))
            self.told(True, is_view(bond))
            self.told(view, view_of(bond))

    def test_which_bonds_are_of_views(self):
        seen = {True: 0, False: 0}
        for bond in list(small_bonds(3)) + some_bonds(111, 60):
            expected = sorted(s for s, _ in bond[2]) == list(range(bond[0]))
            seen[expected] += 1
            self.told(expected, is_view(bond))
            if expected:
                self.told(bond, view_bond(view_of(bond)))
            else:
                self.raised(Refused, "value", bond, view_of, bond)
                self.raised(Refused, "value", passed := listed(bond), view_of, passed)
        self.assertGreater(min(seen.values()), 10)

    def test_fibres(self):
        for view in VIEWS:
            expected = tuple(tuple(s for s in range(len(view)) if view[s] == t) for t in range(max(view) + 1))
            self.told(expected, fibres(view))
            self.assertEqual(sorted(s for lot in expected for s in lot), list(range(len(view))))


class Costs(Checks, unittest.TestCase):
    def test_spread(self):
        for view in VIEWS:
            sizes = [view.count(t) for t in view]
            self.told(parts(Fraction(max(sizes), min(sizes))), spread(view))

    def test_spread_is_the_product(self):
        for view in VIEWS[::3]:
            bond = view_bond(view)
            self.told(parts(best(bond, 0) * best(bond, 1)), spread(view))
            lots = fibres(view)
            self.assertEqual(max(len(lot) for lot in lots), best(bond, 0))
            self.assertEqual(Fraction(1, min(len(lot) for lot in lots)), best(bond, 1))
            self.assertTrue(any(set(lot) <= set(greatest(bond, 0)[1]) for lot in lots if len(lot) == best(bond, 0)))

    def test_fewest(self):
        for view in VIEWS[::5]:
            for many in (0, 1, 2, 3, 4, 5, 11):
                self.told(ceil(Fraction(*spread(view)) ** (many // 2)), fewest(view, many))
        for view in ((0, 0, 0, 0, 0, 1), (0, 0, 0, 1, 1), (0, 1)):
            self.told(ceil(Fraction(*spread(view)) ** 500), fewest(view, 1000))
            self.told(ceil(Fraction(*spread(view)) ** 499), fewest(view, 999))


class Complements(Checks, unittest.TestCase):
    def test_complements(self):
        self.assertGreater(len(ALIKE), 100)
        for view in ALIKE:
            lots = [[s for s in range(len(view)) if view[s] == t] for t in range(max(view) + 1)]
            for s in range(len(view)):
                place = lots[view[s]].index(s)
                self.told(place, complement(view, s))
                for t, lot in enumerate(lots):
                    self.told(lot[place], put_back(view, s, t))
                    self.told(lot[place], from_complement(view, place, t))
                self.told(s, from_complement(view, complement(view, s), view[s]))
            self.assertEqual(len({(view[s], complement(view, s)) for s in range(len(view))}), len(view))

    def test_the_filling_is_the_whole_situation(self):
        for view in ALIKE[::3]:
            many, wide = len(view), max(view) + 1
            moves = tuple((tuple(range(many)), tuple(put_back(view, s, t) for t in range(wide))) for s in range(many))
            for start in range(many):
                machine = check_machine(view_bond(view), (start, tuple(enumerate(view)), moves))
                self.told(True, is_lossless(machine))
                self.told(True, is_forgetful(machine))
                self.assertEqual(len(least_machine(view_bond(view), (start, view[start]))[1]), many)

    def test_other_views_have_no_finite_machine(self):
        for view in OTHERS[::9]:
            for s, t in enumerate(view):
                self.told(None, least_machine(view_bond(view), (s, t)))
            for call, rest in ((complement, (0,)), (put_back, (0, 0)), (from_complement, (0, 0))):
                self.raised(Refused, "value", view, call, view, *rest)
                self.raised(Refused, "value", view, call, view, *[None] * len(rest))


class Wrong(Checks, unittest.TestCase):
    CALLS = [(check_view, ()), (view_bond, ()), (fibres, ()), (spread, ()), (fewest, (None,)), (complement, (None,)),
             (put_back, (None, None)), (from_complement, (None, None))]
    NONE = [(), [], None, 0, "01", (1,), (0, 2), (0, 0, 3, 1), (True,), (0, True), (False,), (0, None), (0, -1), ((0,),), (0,) * 7,
            (0, "1"), (0, 1, 2, 3, 4, 5, 6), 10 ** 30, (0, 10 ** 30)]

    def test_no_views(self):
        for call, rest in self.CALLS:
            for value in self.NONE:
                self.raised(Refused, "value", value, call, value, *rest)
            for value in any_values():
                if not (isinstance(value, (list, tuple)) and value and all(same(x, 0) for x in value)):
                    self.raised(Refused, "value", value, call, value, *rest)

    def test_no_bonds(self):
        for value, at in NO_BONDS:
            self.raised(BadBond, "at", at, is_view, value)
            self.raised(BadBond, "at", at, view_of, value)
        self.raised(Refused, "value", DESK, view_of, DESK)
        self.told(False, is_view(full(1, 2)))
        self.told((0, 0), view_of(full(2, 1)))

    def test_no_many(self):
        refuses(self, Refused, "value", fewest, ((0, 0, 1),), lambda value: type(value) is int and value >= 0)

    def test_no_fillings_no_places(self):
        view = (0, 1, 0, 1)

        def below(many):
            return lambda value: type(value) is int and 0 <= value < many
        refuses(self, NoFilling, "value", complement, (view,), below(4))
        refuses(self, NoFilling, "value", put_back, (view,), below(4), (None,))
        refuses(self, NoFilling, "value", put_back, (view, 3), below(2))
        refuses(self, Refused, "value", from_complement, (view,), below(2), (None,))
        refuses(self, NoFilling, "value", from_complement, (view, 1), below(2))
        for value in (4, -1, True):
            self.raised(NoFilling, "value", value, complement, view, value)
            self.raised(NoFilling, "value", value, put_back, view, value, value)
        self.raised(NoFilling, "value", 2, put_back, view, 0, 2)
        self.raised(Refused, "value", 2, from_complement, view, 2, 2)
        # One filling, one fibre.
        self.told((0, 0, 0), (complement((0,), 0), put_back((0,), 0, 0), from_complement((0,), 0, 0)))
        self.raised(Refused, "value", 1, from_complement, (0,), 1, 1)
        self.raised(NoFilling, "value", False, from_complement, (0,), 0, False)

    def test_names_and_lists(self):
        self.told((0, 1), check_view(value=[0, 1]))
        self.told((2, 1, ((0, 0), (1, 0))), view_bond(view=[0, 0]))
        self.told(True, is_view(bond=full(2, 1)))
        self.told((0, 0), view_of(bond=listed(full(2, 1))))
        self.told(((0, 2), (1,)), fibres(view=(0, 1, 0)))
        self.told((2, 1), spread(view=(0, 1, 0)))
        self.told(4, fewest(view=(0, 1, 0), many=5))
        self.told(1, complement(view=(0, 1, 0, 1), s=3))
        self.told(2, put_back(view=(0, 1, 0, 1), s=3, t=0))
        self.told(3, from_complement(view=(0, 1, 0, 1), place=1, t=1))
        for call in (check_view, view_bond, fibres, spread):
            self.takes_lists(call, (0, 1, 1, 2))
            self.assertTrue(is_tuples(call([0, 1, 1, 2])))
        self.takes_lists(put_back, (0, 1, 1, 0), 2, 0)


if __name__ == "__main__":
    unittest.main()
