"""Promises 70 and 71: the three cases, how many situations there are within some settings, and the papers of a case."""

import time
import unittest
from math import lcm

from case_words import CORNER, DESK, SQUARE, STAR, all_cases, case_by_words, some_cases, tight_crossed
from helpers import EVEN, Checks, any_values, fitting, full, is_tuples, listed, lots, refuses, same
from test_bonds import NO_BONDS
from setitback.errors import BadBond, Refused
from setitback.growing import Growing
from setitback.hotel import Hotel
from setitback.meaning import bits, paper, paper_holds, told, within
from setitback.weights import balanced


class Cases(Checks, unittest.TestCase):
    def test_told(self):
        seen = {}
        for bond, start in all_cases():
            expected = case_by_words(bond, start)
            self.told(expected, told(bond, start))
            seen[expected[0]] = seen.get(expected[0], 0) + 1
        self.assertEqual(sorted(seen), ["bounded", "grows", "steps"])
        self.assertGreater(min(seen.values()), 100)
        for bond, start in some_cases(30):
            self.told(case_by_words(bond, start), told(listed(bond), list(start)))

    def test_known_ones(self):
        self.told(("bounded", 2), told(SQUARE, (1, 1)))
        self.told(("steps", (1,)), told(bond=CORNER, start=(0, 1)))
        self.told(("grows", (25, 1), (0, 1, 2, 3, 4), (1, 2, 3, 4, 5)), told(STAR, (5, 5)))
        self.told(("bounded", 1), told(full(1, 1), (0, 0)))
        self.told(("bounded", 30), told(full(6, 5), (5, 4)))


class Within(Checks, unittest.TestCase):
    def test_within(self):
        for bond, start in some_cases(60):
            case = case_by_words(bond, start)
            for many in (0, 1, 2, 3, 7, 29, 30, 100):
                if case[0] == "grows":
                    expected = Growing(bond, start).within(many)
                elif case[0] == "steps":
                    expected = Hotel(bond, start).within(many)
                    self.assertEqual(expected, (many + 1, 1 + many * lcm(bond[0], bond[1])))
                else:
                    expected = (min(many + 1, case[1]), case[1] if many else 1)
                self.told(expected, within(bond, start, many))
                self.told(expected, within(listed(bond), list(start), many))
                digits = 0 if expected[1] == 1 else len(f"{expected[1] - 1:b}")
                self.told(digits, bits(bond, start, many))
                self.told(digits, bits(listed(bond), list(start), many))

    def test_known_ones(self):
        for many, expected in ((0, (1, 1)), (1, (2, 30)), (28, (29, 30)), (29, (30, 30)), (1000, (30, 30))):
            self.told(expected, within(full(6, 5), (0, 0), many))
            self.told(0 if many == 0 else 5, bits(full(6, 5), (0, 0), many))
        self.told((1, 1), within(full(1, 1), (0, 0), 1000))
        self.told(0, bits(bond=full(1, 1), start=(0, 0), many=1000))
        self.told((10, 19), within(bond=CORNER, start=(0, 1), many=9))
        self.told((1, 1), within(CORNER, (0, 1), 0))
        self.told((1, 1), within(DESK, (0, 0), 0))
        self.told((4, 11602), within(DESK, (0, 0), 4))
        self.told(14, bits(DESK, (0, 0), 4))
        self.told(1, bits(SQUARE, (0, 0), 5))

    def test_at_the_limits(self):
        begun = time.perf_counter()
        for bond, start in ((STAR, (0, 0)), (DESK, (2, 1)), (CORNER, (0, 1)), (full(6, 6), (3, 3))) + some_cases(5):
            low, high = within(bond, start, 1000)
            self.assertLessEqual(low, high)
            self.assertEqual(bits(bond, start, 1000), (high - 1).bit_length())
        self.assertEqual(within(STAR, (0, 0), 1000)[0], 25 ** 500)
        # Half the logarithm of p q is what a setting costs: 500 times that of 25, and no more than so many digits besides.
        self.assertLess(bits(STAR, (0, 0), 1000) - (25 ** 500).bit_length(), 30)
        self.assertLess(time.perf_counter() - begun, 10)

    def test_no_numbers(self):
        for call in (within, bits):
            for bond, start in ((SQUARE, (0, 0)), (CORNER, (0, 1)), (DESK, (0, 0))):
                refuses(self, Refused, "value", call, (bond, start), lambda value: type(value) is int and value >= 0)
                for value in (-1, True, False, None, "1", (1,)):
                    self.raised(Refused, "value", value, call, bond, start, value)


def paper_by_words(bond, start):
    case = case_by_words(bond, start)
    if case[0] == "grows":
        return "grows", case[2], case[3]
    if case[0] == "steps":
        return "steps", balanced(bond, None), case[1]
    return "bounded", balanced(bond, start)


def is_balanced(bond, weight):
    shares = [[sum(many for pair, many in zip(bond[2], weight) if pair[side] == filling) for filling in range(bond[side])]
              for side in (0, 1)]
    return all(row[0] > 0 and len(set(row)) == 1 for row in shares)


def is_right(bond, start, value):
    """Whether a paper of right form holds, word by word."""
    if value[0] == "grows":
        one, other = value[1:]
        return len(one) * len(other) > len(fitting(bond, 0, one)) * len(fitting(bond, 1, other))
    if not is_balanced(bond, value[1]):
        return False
    return value[1][bond[2].index(start)] > 0 if value[0] == "bounded" else value[2] in tight_crossed(bond, start)


class Papers(Checks, unittest.TestCase):
    def test_paper(self):
        for bond, start in all_cases()[::2]:
            expected = paper_by_words(bond, start)
            self.told(expected, paper(bond, start))
            self.assertTrue(is_right(bond, start, expected))
            self.told(True, paper_holds(bond, start, expected))
        for bond, start in some_cases(20):
            self.told(paper_by_words(bond, start), paper(listed(bond), list(start)))
            self.told(True, paper_holds(listed(bond), list(start), listed(paper(bond, start))))

    def test_bent_at_one_place(self):
        seen = {}
        for bond, start in some_cases(40):
            found = paper(bond, start)
            for at, part in enumerate(found[1:], 1):
                for place, number in enumerate(part):
                    for more in (-1, 1):
                        value = (*found[:at], (*part[:place], number + more, *part[place + 1:]), *found[at + 1:])
                        if part is not found[1] or found[0] == "grows":
                            side = at - 1 if found[0] == "grows" else 0
                            right_form = value[at] in lots(bond[side])
                        else:
                            right_form = min(value[at]) >= 0
                        expected = right_form and is_right(bond, start, value)
                        self.told(expected, paper_holds(bond, start, value))
                        seen[found[0], expected] = seen.get((found[0], expected), 0) + 1
        self.assertTrue(all(seen.get((word, False), 0) > 30 for word in ("bounded", "steps", "grows")))

    def test_all_papers_of_some_starts(self):
        seen = {}
        for bond, start in some_cases(12):
            if max(bond[:2]) > 4:
                continue
            weights = [balanced(bond, start), balanced(bond, None), (0,) * len(bond[2]), (1,) * len(bond[2])]
            weights = [weight for weight in weights if weight is not None]
            values = [("bounded", weight) for weight in weights]
            values += [("steps", weight, lot) for weight in weights for lot in lots(bond[0])]
            values += [("grows", one, other) for one in lots(bond[0]) for other in lots(bond[1])]
            held = set()
            for value in values:
                expected = is_right(bond, start, value)
                self.told(expected, paper_holds(bond, start, value))
                if expected:
                    held.add(value[0])
                seen[value[0], expected] = seen.get((value[0], expected), 0) + 1
            # Only papers of the one case hold.
            self.assertEqual(held, {told(bond, start)[0]})
        self.assertEqual(len(seen), 6)

    def test_any_value(self):
        for bond, start in ((SQUARE, (1, 1)), (CORNER, (0, 1)), (DESK, (0, 0))):
            right = paper(bond, start)
            self.told(True, paper_holds(bond, start, list(right)))
            for value in any_values():
                self.told(False, paper_holds(bond, start, value))
                self.told(False, paper_holds(bond, start, (value, *right[1:])))
                self.told(False, paper_holds(bond, start, (*right, value)))
                for word in ("bounded", "steps", "grows"):
                    # Two numbers above 0, alike, are a balanced weight of the square.
                    is_weight = bond == SQUARE and word == "bounded" and value in ((7, 7), (9, 9))
                    self.told(is_weight, paper_holds(bond, start, (word, value)))
                    self.told(False, paper_holds(bond, start, (word, value, value)))
            self.told(False, paper_holds(bond, start, right[:-1]))
        for value in (("bounded", (True, 1)), ("bounded", (1, 1, 0)), ("bounded", (0, 0)), ("bounded", (-1, -1)), ("steps", (1, 1)), ("steps", (1, 1), (0,))):
            self.told(False, paper_holds(SQUARE, (1, 1), value))
        self.told(True, paper_holds(SQUARE, (1, 1), ("bounded", (7, 7))))
        for value in (("steps", (1, 0, 1), (True,)), ("steps", (1, 0, 1), (0,)), ("steps", (1, 0, 1), (0, 1)), ("steps", (1, 0, 1), ()), ("steps", (1, 1, 1), (1,)),
                      ("steps", (1,), (1, 0, 1)), ("bounded", (1, 0, 1)), ("steps", (0, 0, 0), (1,))):
            self.told(False, paper_holds(CORNER, (0, 1), value))
        for value in (("grows", (0, 1), (0,)), ("grows", (1, 0), (1,)), ("grows", (0, True), (1,)), ("grows", (0, 1, 3), (1,)), ("grows", (0, 1), (2,)),
                      ("grows", (0, 1), ()), ("grows", (1,), (0, 1)), ("grows", (0, 1))):
            self.told(False, paper_holds(DESK, (0, 0), value))
        self.told(True, paper_holds(DESK, (0, 0), ["grows", [0, 1], [0, 1]]))
        self.told(False, paper_holds(DESK, (0, 0), ["grows", [0, 1, 2], [0, 1]]))

    def test_wrong_values(self):
        for call, rest in ((told, ()), (within, (None,)), (bits, (None,)), (paper, ()), (paper_holds, (None,))):
            for value, at in NO_BONDS:
                self.raised(BadBond, "at", at, call, value, None, *rest)
            for bond in (EVEN, DESK):
                def right(value):
                    return any(same(value, pair) or same(value, list(pair)) for pair in bond[2])
                refuses(self, Refused, "value", call, (bond,), right, rest)
            for value in ((0, 1), (2, 2), (True, 1), (1, False), (0,), (0, 0, 0)):
                self.raised(Refused, "value", value, call, EVEN, value, *rest)

    def test_names_and_lists(self):
        self.told(("steps", (1, 0, 1), (1,)), paper(bond=CORNER, start=(0, 1)))
        self.told(True, paper_holds(bond=DESK, start=(0, 0), value=("grows", (0, 1), (1,))))
        for bond, start in ((SQUARE, (1, 1)), (CORNER, (0, 1)), (DESK, (0, 0))):
            self.takes_lists(told, bond, start)
            self.takes_lists(within, bond, start, 3)
            self.takes_lists(bits, bond, start, 3)
            self.takes_lists(paper, bond, start)
            self.takes_lists(paper_holds, bond, start, paper(bond, start))
            self.assertTrue(is_tuples((told(listed(bond), list(start)), within(listed(bond), list(start), 4), paper(listed(bond), list(start)))))


if __name__ == "__main__":
    unittest.main()
