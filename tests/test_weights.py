"""Promises 20 to 23: balanced weights, papers of a start, what all starts take, papers of all starts."""

import unittest
from itertools import product
from math import gcd, lcm
from random import Random

from helpers import (
    DESK, EVEN, VIEW, Checks, any_values, fitting, full, is_even, is_tuples, listed, lots, refuses, same, small_bonds, some_bonds,
)
from test_bonds import NO_BONDS
from test_shares import all_weights, sums
from test_tight import STAIRS, TWOS, crosses, tight, tights
from setitback.errors import BadBond, BadWeight, Refused
from setitback.flows import circulation
from setitback.weights import (
    anywhere, anywhere_holds, anywhere_paper, anywhere_weight, asked, balanced, is_balanced, start_holds, start_paper,
)

# One of side 1 fits all five, the others two or three: here the lots of side 0 ask for less than those of side 1.
FIVES = (5, 5, ((0, 0), (0, 1), (0, 4), (1, 0), (1, 2), (1, 3), (2, 0), (2, 3), (2, 4), (3, 0), (3, 1), (3, 2), (4, 0), (4, 1),
                (4, 2), (4, 4)))
BONDS = list(small_bonds(3)) + some_bonds(51, 60) + [STAIRS, TWOS, FIVES, full(4, 6), full(6, 6), full(5, 6)]
EVENS = [bond for bond in BONDS if is_even(bond)] + [bond for bond in some_bonds(53, 600) if is_even(bond)][:40]


def all_balanced(bond, size):
    """All balanced weights of a size, ascending; a size that no share divides has none."""
    if size % bond[0] or size % bond[1]:
        return iter(())
    return all_weights(bond, size, lambda share: share == size // bond[0] > 0, lambda share: share == size // bond[1] > 0)


def can_have(bond, size, lows):
    """Whether a balanced weight of a size has each number from its low on, by a flow."""
    m, n, pairs = bond
    arcs = [(s, m + t, low, size) for (s, t), low in zip(pairs, lows)]
    arcs += [(m + n, s, size // m, size // m) for s in range(m)] + [(m + t, m + n, size // n, size // n) for t in range(n)]
    return all(low <= high for _, _, low, high in arcs) and circulation(m + n + 1, arcs)[0] == "flow"


def is_least(bond, size, lows, weight):
    """Whether a balanced weight is the least with these lows: no number can be less with those ahead of it kept."""
    if not balanced_by_words(bond, weight) or sum(weight) != size or any(x < low for x, low in zip(weight, lows)):
        return False
    m, n, pairs = bond
    ends = [(m + n, s, size // m, size // m) for s in range(m)] + [(m + t, m + n, size // n, size // n) for t in range(n)]
    for at, number in enumerate(weight):
        if number > lows[at]:
            spans = [(x, x) for x in weight[:at]] + [(lows[at], number - 1)] + [(low, size) for low in lows[at + 1:]]
            arcs = [(s, m + t, *span) for (s, t), span in zip(pairs, spans)] + ends
            if circulation(m + n + 1, arcs)[0] == "flow":
                return False
    return True


def balanced_by_words(bond, weight):
    shares = sums(bond, weight)
    return all(len(set(side)) == 1 and side[0] > 0 for side in shares)


def asked_by_words(bond, side, lot):
    here, there = bond[side], bond[1 - side]
    others = fitting(bond, side, lot)
    x = sum(pair[1 - side] in others and pair[side] not in lot for pair in bond[2])
    r = len(others) * here - len(lot) * there
    if r < 0 or (r == 0 and x > 0):
        return None
    a = 1
    while a * r < x * gcd(here, there):
        a += 1
    return a


class Balanced(Checks, unittest.TestCase):
    def test_is_balanced(self):
        many = 0
        for bond in list(small_bonds(2)) + list(small_bonds(3))[10::9]:
            for weight in product(range(3), repeat=min(len(bond[2]), 7)):
                weight = weight + (1,) * (len(bond[2]) - len(weight))
                right = balanced_by_words(bond, weight)
                self.told(right, is_balanced(bond, weight))
                many += right
                if right:
                    self.assertEqual(sum(weight) % lcm(*bond[:2]), 0)
        self.assertGreater(many, 20)
        for bond in BONDS:
            self.told(False, is_balanced(bond, [0] * len(bond[2])))
        self.told(True, is_balanced(full(6, 6), [10 ** 9] * 36))
        self.told(False, is_balanced(full(6, 6), [10 ** 9] * 35 + [10 ** 9 - 1]))

    def test_balanced_without_a_start(self):
        for bond in BONDS + EVENS:
            weight = balanced(bond, None)
            self.assertEqual(weight is not None, is_even(bond))
            if weight is not None:
                size = lcm(*bond[:2])
                self.assertIs(type(weight), tuple)
                self.assertTrue(is_least(bond, size, [0] * len(bond[2]), weight))
                if size <= 6 and len(bond[2]) <= 7:
                    self.told(next(all_balanced(bond, size)), weight)

    def test_balanced_of_each_start(self):
        for bond in BONDS[::2] + EVENS:
            size = lcm(*bond[:2])
            for at, pair in enumerate(bond[2]):
                weight = balanced(bond, pair)
                crossed = [lot for lot in tights(bond, 0) if crosses(bond, lot, pair)]
                self.assertEqual(weight is not None, is_even(bond) and not crossed)
                if weight is None:
                    self.told(None, weight)
                    continue
                self.assertTrue(is_least(bond, size, [int(other == pair) for other in bond[2]], weight))
                if size <= 4 and len(bond[2]) <= 6:
                    self.told(next(found for found in all_balanced(bond, size) if found[at] > 0), weight)

    def test_no_start(self):
        def right(value):
            return value is None or isinstance(value, (list, tuple)) and any(same(tuple(value), pair) for pair in EVEN[2])
        refuses(self, Refused, "value", balanced, (EVEN,), right)
        for value in ((0, 1), [0, 1], (2, 0), (0, -1), (0,), (True, 0), (1, True), (False, 0), 0, False, "00"):
            self.raised(Refused, "value", value, balanced, EVEN, value)


class Starts(Checks, unittest.TestCase):
    def test_papers(self):
        words = []
        for bond in EVENS:
            for pair in bond[2]:
                word, told = paper = start_paper(bond, pair)
                words.append(word)
                weight = balanced(bond, pair)
                if weight is None:
                    having = [lot for lot in tights(bond, 0) if crosses(bond, lot, pair)]
                    self.told(("crossed", tuple(sorted(set.intersection(*map(set, having))))), paper)
                else:
                    self.told(("carried", weight), paper)
                self.told(True, start_holds(bond, pair, paper))
                self.told(True, start_holds(listed(bond), list(pair), listed(paper)))
        self.assertGreater(min(words.count("carried"), words.count("crossed")), 100)

    def test_holds_is_just_these(self):
        random = Random(2)
        for bond in EVENS[::6]:
            for at, pair in enumerate(bond[2]):
                right = [lot for lot in lots(bond[0]) if tight(bond, 0, lot) and crosses(bond, lot, pair)]
                for lot in lots(bond[0]):
                    self.told(lot in right, start_holds(bond, pair, ("crossed", lot)))
                weights = [[random.randrange(3) for _ in bond[2]] for _ in range(5)]
                weights += [[3 * number for number in balanced(bond, other) or ()] for other in bond[2][:4]]
                for weight in weights:
                    holds = len(weight) == len(bond[2]) and balanced_by_words(bond, weight) and weight[at] > 0
                    self.told(holds, start_holds(bond, pair, ("carried", weight)))
                    # No start has both.
                    self.assertFalse(holds and right)

    def test_bent_papers(self):
        for bond in EVENS[::9]:
            for pair in bond[2][::2]:
                word, told = start_paper(bond, pair)
                for at in range(len(told)):
                    for part in (told[at] + 10 ** 6, True, None, "1", -1, (told[at],)):
                        bent = told[:at] + (part,) + told[at + 1:]
                        right = type(part) is int and part > 0 and word == "carried" and balanced_by_words(bond, bent)
                        self.told(right and bent[bond[2].index(pair)] > 0, start_holds(bond, pair, (word, bent)))
                other = "crossed" if word == "carried" else "carried"
                for value in ((other, told), (word,), (word, told, told), (told, word), (word, ()), (word, told + (0,)), told, (None, told), ("", told)):
                    self.told(False, start_holds(bond, pair, value))
        for value in any_values():
            self.told(False, start_holds(EVEN, (0, 0), value))
            self.told(False, start_holds(EVEN, (0, 0), ("carried", value)))
            self.told(False, start_holds(EVEN, (0, 0), ("crossed", value)))
            self.told(False, start_holds(EVEN, (0, 0), (value, (1, 0, 1))))

    def test_wrong_bonds_and_starts(self):
        odd = [bond for bond in BONDS if not is_even(bond)] + [DESK, listed(DESK)]
        for bond in odd:
            for start in (None, (0, 0), (9, 9), bond[2][0]):
                self.raised(Refused, "value", bond, start_paper, bond, start)
                self.raised(Refused, "value", bond, start_holds, bond, start, None)
        for bond in EVENS[::20] + [EVEN]:
            def right(value):
                return isinstance(value, (list, tuple)) and any(same(tuple(value), pair) for pair in bond[2])
            refuses(self, Refused, "value", start_paper, (bond,), right)
            refuses(self, Refused, "value", start_holds, (bond,), right, (None,))
        self.raised(Refused, "value", None, start_paper, EVEN, None)


class Anywhere(Checks, unittest.TestCase):
    def test_asked_by_all_lots(self):
        for bond in BONDS + EVENS:
            for side in (0, 1):
                for lot in lots(bond[side]):
                    self.told(asked_by_words(bond, side, lot), asked(bond, side, lot))

    def test_anywhere_is_the_least_that_is_enough(self):
        found_more = 0
        for bond in BONDS + EVENS:
            size, ones = lcm(*bond[:2]), [1] * len(bond[2])
            asks = [asked_by_words(bond, side, lot) for side in (0, 1) for lot in lots(bond[side])]
            many = anywhere(bond)
            self.told(None if None in asks else max(asks), many)
            if many is None:
                self.assertFalse(any(can_have(bond, a * size, ones) for a in (1, 2, 3, 10, 100, 10 ** 6)))
                self.told(None, anywhere_weight(bond))
                continue
            self.assertEqual([can_have(bond, a * size, ones) for a in range(1, many + 1)], [False] * (many - 1) + [True])
            found_more += many > 2
            weight = anywhere_weight(bond)
            self.assertIs(type(weight), tuple)
            self.assertTrue(is_least(bond, many * size, ones, weight))
            if many * size - len(bond[2]) <= 3 and len(bond[2]) <= 7:
                every = [found for found in all_balanced(bond, many * size) if min(found) > 0]
                self.told(every[0], weight)
        self.assertGreater(found_more, 5)

    def test_the_lots_of_one_side_can_be_too_few(self):
        asks = [max(asked(FIVES, side, lot) for lot in lots(5)) for side in (0, 1)]
        self.assertEqual(asks, [4, 5])
        self.told(5, anywhere(FIVES))
        self.assertEqual(anywhere_paper(FIVES)[:2], ("anywhere", 1))

    def test_papers(self):
        words = []
        for bond in BONDS + EVENS:
            paper = anywhere_paper(bond)
            many = anywhere(bond)
            side, lot = next((side, lot) for side in (0, 1) for lot in lots(bond[side]) if asked_by_words(bond, side, lot) == many)
            expected = ("barred", side, lot) if many is None else ("anywhere", side, lot, anywhere_weight(bond))
            self.told(expected, paper)
            self.told(True, anywhere_holds(bond, paper))
            self.told(True, anywhere_holds(bond, listed(paper)))
            words.append(paper[0])
        self.assertGreater(min(words.count("anywhere"), words.count("barred")), 50)

    def test_holds_is_just_these(self):
        for bond in BONDS[::3] + EVENS[::3]:
            size, many = lcm(*bond[:2]), anywhere(bond)
            weights = [] if many is None else [anywhere_weight(bond), tuple(2 * x for x in anywhere_weight(bond))]
            weights.append(balanced(bond, None) or (1,) * len(bond[2]))
            for side in (0, 1):
                for lot in lots(bond[side]):
                    ask = asked_by_words(bond, side, lot)
                    self.told(ask is None, anywhere_holds(bond, ("barred", side, lot)))
                    for weight in weights:
                        right = ask is not None and balanced_by_words(bond, weight) and min(weight) > 0 and sum(weight) == ask * size
                        self.told(right, anywhere_holds(bond, ("anywhere", side, lot, weight)))

    def test_bent_papers(self):
        for bond in BONDS[::4]:
            paper = anywhere_paper(bond)
            word, side, lot, rest = paper[0], paper[1], paper[2], paper[3:]
            values = [paper[:-1], paper + (0,), (word.upper(), *paper[1:]), (None, *paper[1:]), (word, 2, lot, *rest), (word, None, lot, *rest),
                      (word, bool(side), lot, *rest), (word, side, (), *rest), (word, side, lot + lot, *rest), (word, side, lot[0], *rest),
                      (word, side, (bond[side],), *rest), (word, side, (None,), *rest), (word, side, "0", *rest), (side, word, lot, *rest),
                      ("anywhere" if word == "barred" else "barred", *paper[1:])]
            if rest:
                weight = rest[0]
                values += [(word, side, lot, bent) for bent in ((), weight + (0,), (0,) * len(weight), None, weight[0])]
                for at in range(len(weight)):
                    for part in (weight[at] + 1, 0, True, None, "1", -1):
                        if part is True or part != weight[at]:
                            values.append((word, side, lot, weight[:at] + (part,) + weight[at + 1:]))
            for value in values:
                self.told(False, anywhere_holds(bond, value))
                self.told(False, anywhere_holds(bond, listed(value)))
        for value in any_values():
            for bond in (EVEN, full(2, 2), DESK):
                self.told(False, anywhere_holds(bond, value))
                self.told(False, anywhere_holds(bond, ("barred", value, (1,))) and not same(value, 0) and not same(value, 1))
                if not isinstance(value, (list, tuple)):
                    self.told(False, anywhere_holds(bond, ("barred", 0, value)))
                    self.told(False, anywhere_holds(bond, ("anywhere", 0, (0,), value)))

    def test_six_fillings_a_side_with_all_pairs(self):
        bond = full(6, 6)
        # A lot of k asks for k (6 - k) 6 / (6 (6 - k)) where it fits all six.
        self.told(6, anywhere(bond))
        self.told((1,) * 36, anywhere_weight(bond))
        self.told(True, anywhere_holds(bond, anywhere_paper(bond)))
        self.told(True, start_holds(bond, (5, 5), start_paper(bond, (5, 5))))


class Wrong(Checks, unittest.TestCase):
    def test_no_bonds(self):
        for value, at in NO_BONDS:
            for call, rest in ((is_balanced, (None,)), (balanced, (5,)), (start_paper, (None,)), (start_holds, (None, None)),
                               (asked, (None, None)), (anywhere, ()), (anywhere_weight, ()), (anywhere_paper, ()), (anywhere_holds, (None,))):
                self.raised(BadBond, "at", at, call, value, *rest)

    def test_no_weight(self):
        for value in any_values():
            if not isinstance(value, (list, tuple)) or len(value) != 4:
                self.raised(BadWeight, "at", -1, is_balanced, VIEW, value)
        for at in range(4):
            for part in (-1, True, False, None, "0", (0,)):
                self.raised(BadWeight, "at", at, is_balanced, VIEW, [1] * at + [part] * (4 - at))

    def test_no_side_no_lot(self):
        def side(value):
            return same(value, 0) or same(value, 1)
        refuses(self, Refused, "value", asked, (VIEW,), side, ((0,),))
        refuses(self, Refused, "value", asked, (VIEW,), side, (None,))
        refuses(self, Refused, "value", asked, (VIEW, 1), lambda value: isinstance(value, (list, tuple)) and any(
            same(tuple(value), lot) for lot in lots(3)))

    def test_names_and_lists(self):
        self.told(True, is_balanced(bond=EVEN, weight=[3, 0, 3]))
        self.told((1, 0, 1), balanced(bond=EVEN, start=None))
        self.told(("crossed", (0,)), start_paper(bond=EVEN, start=[1, 0]))
        self.told(True, start_holds(bond=EVEN, start=[1, 0], value=["crossed", [0]]))
        self.told(2, asked(bond=full(2, 2), side=0, lot=[0]))
        self.told(2, anywhere(bond=full(2, 2)))
        self.told((1, 1, 1, 1), anywhere_weight(bond=full(2, 2)))
        self.told(("barred", 0, (0,)), anywhere_paper(bond=EVEN))
        self.told(True, anywhere_holds(bond=EVEN, value=["barred", 0, [0]]))
        for bond in EVENS[::15]:
            for call, rest in ((balanced, (None,)), (balanced, (bond[2][0],)), (start_paper, (bond[2][-1],)), (asked, (1, (0,))),
                               (anywhere, ()), (anywhere_weight, ()), (anywhere_paper, ())):
                self.takes_lists(call, bond, *rest)
                self.assertTrue(is_tuples(call(bond, *rest)))


if __name__ == "__main__":
    unittest.main()
