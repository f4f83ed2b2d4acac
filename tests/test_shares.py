"""Promises 13, 14 and 15: the greatest quotients, climbing to them, weights and papers of quotients."""

import unittest
from fractions import Fraction
from itertools import product as rows_of
from random import Random

from helpers import (
    DESK, EVEN, VIEW, Checks, any_values, best, fitting, full, listed, lots, parts, refuses, same, small_bonds, some_bonds, worth,
)
from test_bonds import NO_BONDS
from setitback.errors import BadBond, BadWeight, Refused
from setitback.shares import (
    check_weight, climb, greatest, lot_at, product, quotient_holds, quotient_paper, share_sums,
)

BONDS = list(small_bonds(3)) + some_bonds(21, 60)
PRICES = [(0, 1), (0, 7), (1, 1), (1, 2), (2, 1), (3, 2), (2, 3), (6, 4), (5, 2), (3, 1), (1, 3), (1, 6), (7, 1), (10 ** 6, 999999), (10 ** 6, 1)]


def union(found):
    return tuple(sorted({filling for lot in found for filling in lot}))


def all_weights(bond, size, shares_0, shares_1):
    """All weights of the size with such shares, ascending, by trying them pair by pair."""
    pairs = bond[2]

    def go(at, weight, rest):
        if at == len(pairs):
            if rest == 0:
                one, other = sums(bond, weight)
                if all(shares_0(x) for x in one) and all(shares_1(x) for x in other):
                    yield tuple(weight)
            return
        for number in range(rest + 1):
            yield from go(at + 1, weight + [number], rest - number)
    return go(0, [], size)


def sums(bond, weight):
    """The shares of both sides, by their definition."""
    return tuple(tuple(sum(number for number, pair in zip(weight, bond[2]) if pair[side] == filling) for filling in range(bond[side]))
                 for side in (0, 1))


def shows(bond, side, lot, weight):
    """Whether a lot and a weight are a paper of quotients, by the words of promise 15."""
    shares = sums(bond, weight)
    here, there = shares[side], shares[1 - side]
    return here[0] > 0 and len(set(here)) == 1 and all(share <= worth(bond, side, lot) * here[0] for share in there)


class Greatest(Checks, unittest.TestCase):
    def test_greatest_and_the_lot_that_holds_all_others(self):
        for bond in BONDS:
            for side in (0, 1):
                most = best(bond, side)
                having = [lot for lot in lots(bond[side]) if worth(bond, side, lot) == most]
                lot = union(having)
                # It holds: there is one, the fillings of all that have it.
                self.assertIn(lot, having)
                self.told((parts(most), lot), greatest(bond, side))
            self.told(parts(best(bond, 0) * best(bond, 1)), product(bond))

    def test_either_and_both_have_no_more_partners(self):
        for bond in BONDS[::4]:
            for side in (0, 1):
                for one, other in rows_of(lots(bond[side]), repeat=2):
                    both = tuple(sorted(set(one) & set(other)))
                    either = union((one, other))
                    self.assertLessEqual(len(fitting(bond, side, either)) + len(fitting(bond, side, both)),
                                         len(fitting(bond, side, one)) + len(fitting(bond, side, other)))

    def test_sides_of_six(self):
        self.told(((1, 1), (0, 1, 2, 3, 4, 5)), greatest(full(6, 6), 0))
        self.told(((6, 1), (0, 1, 2, 3, 4, 5)), greatest(full(6, 1), 0))
        self.told((1, 1), product(full(6, 5)))
        self.told((2, 1), product(DESK))


class Climbing(Checks, unittest.TestCase):
    def by_words(self, bond, side, price):
        every = [()] + lots(bond[side])
        worths = {lot: len(lot) - Fraction(*price) * len(fitting(bond, side, lot)) for lot in every}
        most = max(worths.values())
        lot = union([lot for lot in every if worths[lot] == most])
        self.assertEqual(worths[lot], most)
        return lot, most

    def test_lot_at_each_price(self):
        for bond in BONDS[::2]:
            for side in (0, 1):
                for price in PRICES:
                    self.told(self.by_words(bond, side, price)[0], lot_at(bond, side, price))
                    self.told(self.by_words(bond, side, price)[0], lot_at(bond, side, list(price)))
                # The price at which the greatest lot is worth nothing, and others around it.
                top, bottom = greatest(bond, side)[0]
                for price in ((top, bottom), (5 * top, 5 * bottom), (top * 7 + 1, bottom * 7), (top * 7 - 1, bottom * 7)):
                    self.told(self.by_words(bond, side, price)[0], lot_at(bond, side, price))

    def test_climb(self):
        longer = 0
        for bond in BONDS + some_bonds(33, 150):
            for side in (0, 1):
                row = [(worth(bond, side, tuple(range(bond[side]))), tuple(range(bond[side])))]
                while True:
                    lot, most = self.by_words(bond, side, parts(row[-1][0]))
                    if most <= 0:
                        break
                    row.append((worth(bond, side, lot), lot))
                found = climb(bond, side)
                self.told(tuple((parts(quotient), lot) for quotient, lot in row), found)
                quotients = [Fraction(*quotient) for quotient, _ in found]
                self.assertTrue(all(x < y for x, y in zip(quotients, quotients[1:])))
                self.assertEqual(quotients[-1], best(bond, side))
                longer += len(found) > 1
        self.assertGreater(longer, 100)

    def test_no_price(self):
        def right(value):
            return isinstance(value, (list, tuple)) and len(value) == 2 and all(type(x) is int and x >= 0 for x in value) and value[1] > 0
        refuses(self, Refused, "value", lot_at, (VIEW, 0), right)
        for price in ((1, 0), (-1, 1), (1, -1), (1, True), (True, 1), (False, 1), (1,), (1, 1, 1), (None, 1), ("1", 1), (1, (1,)), 1, "11"):
            self.raised(Refused, "value", price, lot_at, DESK, 1, price)


class Weights(Checks, unittest.TestCase):
    def test_share_sums(self):
        random = Random(4)
        for bond in BONDS:
            for most in (1, 3, 10 ** 9):
                weight = tuple(random.randint(0, most) for _ in bond[2])
                self.told(weight, check_weight(bond, list(weight)))
                self.told(sums(bond, weight), share_sums(bond, weight))
                self.takes_lists(share_sums, bond, weight)

    def test_no_weight(self):
        for call in (check_weight, share_sums):
            for bond in BONDS[::9]:
                many = len(bond[2])
                for value in (None, True, 0, "0" * many, (), (0,) * (many - 1), [0] * (many + 1), Refused(0), (0,) * 400):
                    self.raised(BadWeight, "at", -1, call, bond, value)
                for at in range(many):
                    for part in (-1, True, False, None, "0", (0,), -(10 ** 30)):
                        self.raised(BadWeight, "at", at, call, bond, (0,) * at + (part,) + (7,) * (many - at - 1))
                        self.raised(BadWeight, "at", at, call, bond, [0] * at + [part] * (many - at))
            for value in any_values():
                if not isinstance(value, (list, tuple)) or len(value) != 4:
                    self.raised(BadWeight, "at", -1, call, VIEW, value)

    def test_paper_is_the_least_weight(self):
        for bond in list(small_bonds(2)) + list(small_bonds(3))[10::5] + [DESK, VIEW]:
            for side in (0, 1):
                (top, bottom), lot = greatest(bond, side)
                if bottom * bond[side] > 6 or len(bond[2]) > 7:
                    continue
                tests = [lambda share: share == bottom, lambda share: share <= top]
                every = all_weights(bond, bottom * bond[side], *(tests if side == 0 else tests[::-1]))
                self.told(("quotient", lot, next(every)), quotient_paper(bond, side))

    def test_papers_hold(self):
        for bond in BONDS + [full(6, 6), full(6, 5), full(1, 6)]:
            for side in (0, 1):
                word, lot, weight = paper = quotient_paper(bond, side)
                (top, bottom), widest = greatest(bond, side)
                self.told(widest, lot)
                self.assertEqual(word, "quotient")
                shares = share_sums(bond, weight)
                self.assertEqual(set(shares[side]), {bottom})
                self.assertLessEqual(max(shares[1 - side]), top)
                self.told(True, quotient_holds(bond, side, paper))
                self.told(True, quotient_holds(bond, side, listed(paper)))
                self.told(True, quotient_holds(bond, side, (word, lot, tuple(7 * x for x in weight))))

    def test_bent_papers(self):
        held = bent = 0
        for bond in BONDS[::3]:
            for side in (0, 1):
                word, lot, weight = quotient_paper(bond, side)
                for at in range(len(weight)):
                    for part in (weight[at] + 1, weight[at] - 1, True, None, "1", weight[at] + 10 ** 9):
                        other = weight[:at] + (part,) + weight[at + 1:]
                        right = type(part) is int and part >= 0 and shows(bond, side, lot, other)
                        self.told(right, quotient_holds(bond, side, (word, lot, other)))
                        held, bent = held + right, bent + (not right)
                for other in lots(bond[side]):
                    right = shows(bond, side, other, weight)
                    self.told(right, quotient_holds(bond, side, (word, other, weight)))
                    # Then no lot of this side has a greater quotient.
                    self.assertEqual(right, worth(bond, side, other) == best(bond, side))
                for value in ((word, lot), (word, lot, weight, weight), ("flow", lot, weight), (word, (), weight), (word, lot, weight + (0,)),
                              (word, lot, (0,) * len(weight)), (word, lot[::-1] + lot, weight), (word, weight, lot + (-1,)), (None, lot, weight)):
                    self.told(False, quotient_holds(bond, side, value))
                for value in any_values():
                    self.told(False, quotient_holds(bond, side, value))
                    self.told(value == "quotient", quotient_holds(bond, side, (value, lot, weight)))
                    if not isinstance(value, (list, tuple)):
                        self.told(False, quotient_holds(bond, side, (word, value, weight)))
                        self.told(False, quotient_holds(bond, side, (word, lot, value)))
        self.assertGreater(bent, 1000)

    def test_all_small_weights(self):
        for bond in list(small_bonds(2)) + list(small_bonds(3))[20:40:3]:
            for weight in rows_of(range(3), repeat=len(bond[2])):
                for side in (0, 1):
                    for lot in lots(bond[side]):
                        right = shows(bond, side, lot, weight)
                        self.told(right, quotient_holds(bond, side, ("quotient", lot, weight)))
                        if right:
                            self.assertEqual(worth(bond, side, lot), best(bond, side))

    def test_great_weights(self):
        for bond in (full(6, 6), DESK, EVEN):
            self.told(True, quotient_holds(bond, 1, listed(("quotient", greatest(bond, 1)[1], tuple(10 ** 8 * x for x in quotient_paper(bond, 1)[2])))))
            self.assertEqual(share_sums(full(6, 6), [10 ** 9] * 36), ((6 * 10 ** 9,) * 6,) * 2)


class Wrong(Checks, unittest.TestCase):
    SIDED = [(lot_at, (None,)), (climb, ()), (greatest, ()), (quotient_paper, ()), (quotient_holds, (None,))]

    def test_no_bonds(self):
        for value, at in NO_BONDS:
            for call, rest in self.SIDED:
                self.raised(BadBond, "at", at, call, value, None, *rest)
            self.raised(BadBond, "at", at, product, value)
            self.raised(BadBond, "at", at, check_weight, value, None)
            self.raised(BadBond, "at", at, share_sums, value, None)

    def test_no_side(self):
        for call, rest in self.SIDED:
            refuses(self, Refused, "value", call, (VIEW,), lambda value: same(value, 0) or same(value, 1), rest)

    def test_names_and_lists(self):
        self.told((0, 1, 2), lot_at(bond=DESK, side=0, price=(0, 1)))
        self.told(climb(DESK, 0), climb(bond=DESK, side=0))
        self.told(greatest(DESK, 0), greatest(bond=DESK, side=0))
        self.told((2, 1), product(bond=DESK))
        self.told((1, 1, 0, 1), check_weight(bond=DESK, value=[1, 1, 0, 1]))
        self.told(((1, 1, 1), (2, 1)), share_sums(bond=DESK, weight=[1, 1, 0, 1]))
        self.told(quotient_paper(DESK, 1), quotient_paper(bond=DESK, side=1))
        self.told(True, quotient_holds(bond=DESK, side=1, value=quotient_paper(DESK, 1)))
        for bond in BONDS[::20]:
            self.takes_lists(lot_at, bond, 0, (3, 4))
            self.takes_lists(quotient_holds, bond, 1, quotient_paper(bond, 1))
            for call in (climb, greatest, quotient_paper):
                self.takes_lists(call, bond, 1)
            self.takes_lists(product, bond)


if __name__ == "__main__":
    unittest.main()
