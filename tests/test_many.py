"""Promises 60 to 62: balanced weights or prices of plans, weights within a bound or prices, and the least quotient."""

import time
import unittest
from fractions import Fraction
from functools import lru_cache
from itertools import permutations, product
from math import isqrt

from helpers import Checks, any_values, best, is_even, is_tuples, listed, refuses, same
from lossless_words import crosses
from plan_words import (
    CUBE, DESK, EVEN, ONE, RING, STEEP, bound_is_right, paper_is_right, quotient, some_plans, three_forms, two_forms,
)
from setitback.errors import Refused
from setitback.many import bound_holds, bound_paper, least_step, plan_holds, plan_machine, plan_of, plan_paper
from setitback.plans import plan_shares

GREATEST = 10 ** 79


def bond_of_plan(plan):
    return (*plan[0], plan[1])


def numbers_in(value):
    return [value] if isinstance(value, int) else [number for part in value for number in numbers_in(part)]


@lru_cache(None)
def papers():
    """(Plan, start, paper) of many plans of two and three forms."""
    return tuple((plan, start, plan_paper(plan, start)) for plan in some_plans() for start in plan[1])


@lru_cache(None)
def bounds():
    """(Plan, bound, paper), bounds at and around the least quotients among them."""
    found = []
    for plan in some_plans(2):
        k = least_step(plan, 7)
        for bound in ((1, 1), (k, 7), (max(7, k - 1), 7), (10 ** 6, 10 ** 6), (10 ** 6, 999_983), (5, 3), (10 ** 6, 1)):
            found.append((plan, bound, bound_paper(plan, bound)))
    return tuple(found)


def bent_at_each_place(value):
    """A paper of word and numbers, with one number one more or one less, one left out, or one too many."""
    word, told = value
    for at, part in enumerate(told):
        if isinstance(part, int):
            for number in (part - 1, part + 1, -part):
                yield word, (*told[:at], number, *told[at + 1:])
        else:
            for _, row in bent_at_each_place(("", part)):
                yield word, (*told[:at], row, *told[at + 1:])


def moved_within_forms(prices):
    """Prices with one of them raised and another one of its form lowered as much, so that the form's sum stays."""
    for form, row in enumerate(prices):
        for up, down in permutations(range(len(row)), 2):
            for more in (1, 3, 50):
                fresh = list(row)
                fresh[up], fresh[down] = row[up] + more, row[down] - more
                yield (*prices[:form], tuple(fresh), *prices[form + 1:])


class Papers(Checks, unittest.TestCase):
    def test_papers_are_right(self):
        seen = {"carried": 0, "none": 0, "crossed": 0}
        for plan, start, paper in papers():
            self.assertTrue(paper_is_right(plan, start, paper), (plan, start, paper))
            self.assertTrue(is_tuples(paper))
            self.assertLessEqual(max(map(abs, numbers_in(paper[1]))), GREATEST)
            self.told(True, plan_holds(plan, start, paper))
            self.told(paper, plan_paper(listed(plan), list(start)))
            self.told(True, plan_holds(listed(plan), list(start), listed(paper)))
            seen[paper[0]] += 1
        self.assertGreater(min(seen.values()), 40)

    def test_crossed_only_where_some_weight_is_balanced(self):
        words = {}
        for plan, _, paper in papers():
            words.setdefault(plan, set()).add(paper[0])
        self.assertTrue(all(len(told) == 1 or told == {"carried", "crossed"} for told in words.values()))
        self.assertEqual({word for told in words.values() for word in told}, {"carried", "crossed", "none"})
        # Something is balanced in each plan that has one crossed start.
        self.assertTrue(all("carried" in told for told in words.values() if "crossed" in told))

    def test_of_bonds(self):
        for plan in two_forms():
            bond = bond_of_plan(plan)
            for start in plan[1]:
                word = "none" if not is_even(bond) else "crossed" if crosses(bond, start) else "carried"
                self.assertEqual(plan_paper(plan, start)[0], word)

    def test_of_three_forms_by_trying(self):
        many = {"carried": 0, "other": 0}
        for plan in three_forms():
            rows = plan[1]
            if len(rows) > 6:
                continue
            weights = [weight for weight in product(range(4), repeat=len(rows)) if any(weight) and all(
                len(set(row)) == 1 for row in plan_shares(plan, weight))]
            for at, start in enumerate(rows):
                word = plan_paper(plan, start)[0]
                if any(weight[at] for weight in weights):
                    self.assertEqual(word, "carried")
                    many["carried"] += 1
                elif plan[0] != (3, 3, 3):
                    # Up to 3 of each row is enough for plans as small as these.
                    self.assertEqual(word, "crossed" if weights else "none")
                    many["other"] += 1
        self.assertGreater(min(many.values()), 20)

    def test_known_ones(self):
        self.assertEqual(plan_paper(EVEN, (1, 0))[0], "crossed")
        self.assertEqual(plan_paper(EVEN, (1, 1))[0], "carried")
        for start in STEEP[1]:
            self.assertEqual(plan_paper(STEEP, start)[0], "none")
        self.assertEqual(plan_paper(ONE, (0, 0, 0))[0], "carried")
        for start in CUBE[1] + RING[1]:
            self.assertEqual(plan_paper(CUBE if start not in RING[1] else RING, start)[0], "carried")


class Holds(Checks, unittest.TestCase):
    def test_bent_at_one_place(self):
        seen = {}
        for plan, start, paper in papers()[::3]:
            for value in bent_at_each_place(paper):
                expected = min(numbers_in(value[1])) >= 0 if value[0] == "carried" else True
                expected = expected and paper_is_right(plan, start, value)
                self.told(expected, plan_holds(plan, start, value))
                seen[paper[0], expected] = seen.get((paper[0], expected), 0) + 1
        self.assertTrue(all(seen.get((word, False), 0) > 50 for word in ("carried", "crossed", "none")))

    def test_prices_moved_within_a_form(self):
        seen = {}
        for plan, start, paper in papers():
            if paper[0] != "carried":
                for prices in moved_within_forms(paper[1]):
                    for word in ("none", "crossed"):
                        expected = paper_is_right(plan, start, (word, prices))
                        self.told(expected, plan_holds(plan, start, (word, prices)))
                        seen[word, expected] = seen.get((word, expected), 0) + 1
        self.assertEqual(len(seen), 4)
        self.assertGreater(min(seen.values()), 100)
        # The start has more than 0, but another row has less.
        self.told(False, plan_holds(EVEN, (1, 0), ("crossed", ((-3, 3), (1, -1)))))
        self.told(False, plan_holds(EVEN, (1, 0), ("crossed", ((-1, 1), (2, -2)))))

    def test_each_word_with_each_content(self):
        seen = {True: 0, False: 0}
        for plan, start, paper in papers()[::2]:
            for word in ("carried", "crossed", "none"):
                right_form = (word == "carried") == (paper[0] == "carried")
                expected = right_form and paper_is_right(plan, start, (word, paper[1]))
                self.told(expected, plan_holds(plan, start, (word, paper[1])))
                seen[expected] += 1
            for word in ("weight", "prices", "", "bounded", 0, None, True, paper[0] + " ", [paper[0]]):
                self.told(False, plan_holds(plan, start, (word, paper[1])))
        self.assertGreater(min(seen.values()), 100)
        # What bars every row is also told of a start alone, though no weight is balanced.
        for plan, start, paper in papers():
            if paper[0] == "none":
                self.told(True, plan_holds(plan, start, ("crossed", paper[1])))

    def test_of_other_starts_and_many_times(self):
        seen = {True: 0, False: 0}
        for plan, start, paper in papers()[::2]:
            for other in plan[1]:
                expected = paper_is_right(plan, other, paper)
                self.told(expected, plan_holds(plan, other, paper))
                seen[expected] += 1
            if paper[0] == "carried":
                great = tuple(10 ** 78 * number for number in paper[1])
            else:
                great = tuple(tuple(10 ** 78 * number for number in row) for row in paper[1])
            self.told(True, plan_holds(plan, start, (paper[0], great)))
        self.assertGreater(min(seen.values()), 100)
        self.told(False, plan_holds(EVEN, (0, 0), ("carried", (0, 0, 0))))
        self.told(False, plan_holds(EVEN, (1, 0), ("crossed", ((0, 0), (0, 0)))))
        self.told(True, plan_holds(EVEN, (1, 0), ("crossed", ((-(10 ** 80), 10 ** 80), (10 ** 80, -(10 ** 80))))))
        # A sum that is below 0 does not make up for one above it.
        self.told(False, plan_holds(EVEN, (1, 0), ("crossed", ((-1, 2), (1, -2)))))

    def test_any_value(self):
        for plan, start, paper in (papers()[0], (EVEN, (1, 0), ("crossed", ((-1, 1), (1, -1)))), (ONE, (0, 0, 0), ("carried", (4,)))):
            for value in any_values():
                self.told(False, plan_holds(plan, start, value))
                self.told(False, plan_holds(plan, start, (*paper, value)))
                self.told(False, plan_holds(plan, start, (value, paper[1])))
                for word in ("carried", "crossed", "none"):
                    if not (word == "carried" and plan is ONE and value in ([True], (True,))):
                        self.told(False, plan_holds(plan, start, (word, value)))
        crossed = ((-1, 1), (1, -1))
        for value in any_values():
            if not (type(value) is int and value >= 0):
                for weight in ((value, 0, 2), (2, 0, value), (2, value, 2)):
                    self.told(False, plan_holds(EVEN, (0, 0), ("carried", weight)))
            if type(value) is not int:
                for prices in (((value, 1), crossed[1]), (crossed[0], (1, value)), (crossed[0], value), (value, crossed[1])):
                    self.told(False, plan_holds(EVEN, (1, 0), ("crossed", prices)))
        for prices in (crossed[:1], (*crossed, ()), ((-1, 1, 0), (1, -1)), ((-1,), (1, -1)), ((-1, 1), (True, -1)), (*crossed, (0,))):
            self.told(False, plan_holds(EVEN, (1, 0), ("crossed", prices)))
        self.told(False, plan_holds(ONE, (0, 0, 0), ("carried", (True,))))

    def test_no_starts(self):
        def right(value):
            return any(same(value, row) or same(value, list(row)) for row in EVEN[1])
        refuses(self, Refused, "value", plan_paper, (EVEN,), right)
        refuses(self, Refused, "value", plan_holds, (EVEN,), right, (None,))
        for value in ((0, 1), [0, 1], (0, 0, 0), (0,), (2, 0), (True, 1), (1, False)):
            self.raised(Refused, "value", value, plan_paper, EVEN, value)
            self.raised(Refused, "value", value, plan_holds, EVEN, value, ("carried", (1, 0, 1)))


def root_step(bond, many):
    """The least k such that k / many is no less than the root of p q."""
    worth = best(bond, 0) * best(bond, 1) * many ** 2
    return next(k for k in range(isqrt(int(worth)), 10 ** 6) if k ** 2 >= worth)


class Bounds(Checks, unittest.TestCase):
    def test_papers_are_right(self):
        seen = {"weight": 0, "prices": 0}
        for plan, bound, paper in bounds():
            self.assertTrue(bound_is_right(plan, bound, paper), (plan, bound, paper))
            self.assertTrue(is_tuples(paper))
            self.assertLessEqual(max(map(abs, numbers_in(paper[1]))), GREATEST)
            self.told(True, bound_holds(plan, bound, paper))
            self.told(paper, bound_paper(listed(plan), list(bound)))
            self.told(True, bound_holds(listed(plan), list(bound), listed(paper)))
            seen[paper[0]] += 1
        self.assertGreater(min(seen.values()), 60)

    def test_of_bonds_just_met_and_just_missed(self):
        seen = {True: 0, False: 0}
        for plan in two_forms():
            bond = bond_of_plan(plan)
            worth = best(bond, 0) * best(bond, 1)
            k = root_step(bond, 1000)
            for bound in ((k, 1000), (k - 1, 1000), (worth.numerator, worth.denominator), (1, 1)):
                if bound[0] < bound[1]:
                    continue
                expected = Fraction(*bound) ** 2 >= worth
                paper = bound_paper(plan, bound)
                self.assertEqual(paper[0], "weight" if expected else "prices")
                self.assertTrue(bound_is_right(plan, bound, paper))
                seen[expected] += 1
        self.assertGreater(min(seen.values()), 60)

    def test_the_least_quotient_itself(self):
        # Of these the least quotients are 2, 4 / 3 and 1: met by these bounds, missed by whatever is less.
        twos = ((3, 3), ((0, 0), (1, 0), (2, 1), (2, 2)))
        for plan, top, bottom in ((twos, 2, 1), (((3, 3), ((0, 0), (0, 1), (0, 2), (1, 2), (2, 2))), 2, 1), (RING, 1, 1), (CUBE, 1, 1)):
            for times in (1, 3, 10 ** 5):
                self.assertEqual(bound_paper(plan, (top * times, bottom * times))[0], "weight")
                if top * times - 1 >= bottom * times:
                    self.assertEqual(bound_paper(plan, (top * times - 1, bottom * times))[0], "prices")

    def test_alike_numbers_are_as_balanced(self):
        for plan in some_plans():
            for bound in ((1, 1), (6, 6), (10 ** 6, 10 ** 6)):
                word, told = bound_paper(plan, bound)
                self.assertEqual(word == "weight", any(plan_paper(plan, start)[0] == "carried" for start in plan[1]))
                if word == "weight":
                    self.assertEqual(quotient(plan, told), 1)

    def test_bent_at_one_place(self):
        seen = {}
        for plan, bound, paper in bounds()[::4]:
            for value in bent_at_each_place(paper):
                right_form = value[0] == "prices" or min(numbers_in(value[1])) >= 0
                expected = right_form and bound_is_right(plan, bound, value)
                self.told(expected, bound_holds(plan, bound, value))
                seen[value[0], expected] = seen.get((value[0], expected), 0) + 1
        self.assertGreater(min(seen.values()), 50)
        self.assertEqual(len(seen), 4)

    def test_of_other_bounds(self):
        seen = {}
        for plan, _, paper in bounds()[::3]:
            for other in ((1, 1), (4, 3), (3, 2), (2, 1), (5, 2), (100, 1), (10 ** 6, 999_999)):
                expected = bound_is_right(plan, other, paper)
                self.told(expected, bound_holds(plan, other, paper))
                seen[paper[0], expected] = seen.get((paper[0], expected), 0) + 1
        self.assertTrue(all(seen.get((word, held), 0) > 30 for word in ("weight", "prices") for held in (True, False)))
        # One form alone that is worse than the bound is enough.
        self.told(True, bound_holds(DESK, (3, 2), ("weight", (2, 2, 0, 3))))
        self.told(False, bound_holds(DESK, (7, 5), ("weight", (2, 2, 0, 3))))
        self.told(False, bound_holds(DESK, (3, 2), ("weight", (2, 2, 0, 4))))

    def test_any_value(self):
        weight, prices = (2, 2, 0, 3), ((-10, -10, 15), (11, -14))
        for value in any_values():
            for word in ("weight", "prices", value):
                self.told(False, bound_holds(DESK, (3, 2), (word, value)))
            self.told(False, bound_holds(DESK, (3, 2), (value, weight)))
            self.told(False, bound_holds(DESK, (5, 4), (value, prices)))
            self.told(False, bound_holds(DESK, (3, 2), value))
            self.told(False, bound_holds(DESK, (3, 2), ("weight", weight, value)))
            if not (type(value) is int and value >= 0):
                for told in ((value, 2, 0, 3), (2, 2, value, 3), (2, 2, 0, value)):
                    self.told(False, bound_holds(DESK, (10 ** 6, 1), ("weight", told)))
            if type(value) is not int:
                for told in (((value, -10, 15), prices[1]), (prices[0], (11, value)), (value, prices[1]), (prices[0], value)):
                    self.told(False, bound_holds(DESK, (5, 4), ("prices", told)))
        for told in ((2, 2, 0), (2, 2, 0, 3, 0), (2, 2, False, 3), (0, 0, 0, 0)):
            self.told(False, bound_holds(DESK, (3, 2), ("weight", told)))
        for told in (prices[:1], (*prices, ()), ((-10, -10), prices[1]), ((*prices[0], 0), prices[1]), ((0, 0, 0), (0, 0))):
            self.told(False, bound_holds(DESK, (5, 4), ("prices", told)))
        self.told(True, bound_holds(DESK, (3, 2), ("weight", weight)))
        self.told(True, bound_holds(DESK, (5, 4), ("prices", prices)))
        self.told(False, bound_holds(DESK, (5, 4), ("weight", prices)))
        self.told(False, bound_holds(DESK, (3, 2), ("prices", weight)))
        self.told(False, bound_holds(DESK, (3, 2), ("weight", prices)))
        self.told(True, bound_holds(DESK, (5, 4), ["prices", listed(prices)]))

    def test_no_bounds(self):
        def right(value):
            return isinstance(value, (list, tuple)) and len(value) == 2 and all(type(part) is int for part in value) and (
                1 <= value[1] <= value[0])
        refuses(self, Refused, "value", bound_paper, (EVEN,), right)
        refuses(self, Refused, "value", bound_holds, (EVEN,), right, (None,))
        for value in ((0, 0), (1, 0), (1, 2), (-1, -2), (2, True), (True, True), (3, 2, 1), (3,), [5, 6], ("3", "2"), (10 ** 6, 10 ** 6 + 1)):
            self.raised(Refused, "value", value, bound_paper, EVEN, value)
            self.raised(Refused, "value", value, bound_holds, EVEN, value, ("weight", (1, 0, 1)))


class LeastStep(Checks, unittest.TestCase):
    def test_of_bonds_it_is_the_root(self):
        for plan in two_forms():
            bond = bond_of_plan(plan)
            for many in (1, 2, 10, 97, 100):
                self.told(root_step(bond, many), least_step(plan, many))

    def test_of_three_forms_the_papers_tell_it(self):
        for plan in three_forms():
            for many in (1, 9, 100):
                k = least_step(plan, many)
                self.assertGreaterEqual(k, many)
                self.assertEqual(bound_paper(plan, (k, many))[0], "weight")
                if k > many:
                    self.assertEqual(bound_paper(plan, (k - 1, many))[0], "prices")
                self.told(k, least_step(listed(plan), many))
                # It is next to the least quotient, which any number of steps comes near to.
                self.assertLess(Fraction(k, many) - Fraction(least_step(plan, 100), 100), Fraction(1, many) + Fraction(1, 100))

    def test_known_ones(self):
        self.told(15, least_step(DESK, 10))
        self.told(142, least_step(DESK, 100))
        self.told(2, least_step(DESK, 1))
        self.told(1, least_step(ONE, 1))
        self.told(100, least_step(CUBE, 100))
        self.told(100, least_step(plan=EVEN, many=100))

    def test_no_numbers(self):
        refuses(self, Refused, "value", least_step, (EVEN,), lambda value: type(value) is int and 1 <= value <= 100)
        for value in (0, 101, -1, True, 10 ** 30, (1,), "1"):
            self.raised(Refused, "value", value, least_step, EVEN, value)


class Limits(Checks, unittest.TestCase):
    def test_in_a_time_that_a_person_waits_for(self):
        begun = time.perf_counter()
        for plan in (CUBE, RING, *[plan for plan in three_forms() if plan[0] == (3, 3, 3)][-20:]):
            for bound in ((10 ** 6, 999_999), (999_983, 499_979), (10 ** 6, 1)):
                paper = bound_paper(plan, bound)
                self.assertTrue(bound_is_right(plan, bound, paper))
                self.assertLessEqual(max(map(abs, numbers_in(paper[1]))), GREATEST)
            least_step(plan, 100)
        self.assertLess(time.perf_counter() - begun, 10)

    def test_names_and_lists(self):
        self.told(True, plan_holds(plan=EVEN, start=(1, 1), value=plan_paper(plan=EVEN, start=(1, 1))))
        self.told(True, bound_holds(plan=DESK, bound=[3, 2], value=bound_paper(plan=DESK, bound=(3, 2))))
        self.takes_lists(plan_paper, RING, (1, 1, 1))
        self.takes_lists(bound_paper, DESK, (5, 4))
        self.takes_lists(plan_holds, EVEN, (0, 0), ("carried", (1, 0, 1)))
        self.takes_lists(least_step, STEEP, 33)
        # The weights that are told can be made machines.
        self.assertEqual(plan_machine(RING, plan_paper(RING, (2, 2, 2))[1], (2, 2, 2))[1].count((2, 2, 2)) > 0, True)
        self.told(EVEN, plan_of((2, 2, EVEN[1])))


if __name__ == "__main__":
    unittest.main()
