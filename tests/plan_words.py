"""Plans of two and three forms, and what is told of them by its words, for several tests."""

from fractions import Fraction
from functools import lru_cache
from itertools import product
from random import Random

from helpers import small_bonds

EVEN = ((2, 2), ((0, 0), (1, 0), (1, 1)))
DESK = ((3, 2), ((0, 0), (1, 0), (2, 0), (2, 1)))
ONE = ((1, 1, 1), ((0, 0, 0),))
CUBE = ((3, 3, 3), tuple(product(range(3), repeat=3)))
# No weight is balanced here: half of all would have to be in the first row, half in the last one, but both have 1 of form 2.
STEEP = ((2, 2, 2), ((0, 0, 1), (1, 0, 0), (1, 0, 1), (1, 1, 1)))
RING = ((3, 3, 3), ((0, 0, 0), (0, 1, 2), (1, 1, 1), (1, 2, 0), (2, 0, 1), (2, 2, 2)))


def some_plan(random, sizes, part):
    """A plan of these sizes with about so many hundredths of all rows."""
    every = list(product(*map(range, sizes)))
    while True:
        rows = tuple(row for row in every if random.randrange(100) < part)
        if all(len({row[form] for row in rows}) == many for form, many in enumerate(sizes)):
            return sizes, rows


@lru_cache(None)
def two_forms():
    """All plans of two forms."""
    return tuple(((m, n), pairs) for m, n, pairs in small_bonds(3))


@lru_cache(None)
def three_forms():
    """Plans of three forms, always the same."""
    random = Random(59)
    found = [ONE, CUBE, STEEP, RING]
    for sizes in product((1, 2, 3), repeat=3):
        found += [some_plan(random, sizes, part) for part in (25, 40, 70)]
    found += [some_plan(random, (3, 3, 3), random.randint(12, 90)) for _ in range(60)]
    return tuple(dict.fromkeys(found + [some_plan(random, (2, 2, 2), random.randint(30, 90)) for _ in range(30)]))


def some_plans(every=1):
    return two_forms()[::3 * every] + three_forms()[::every]


def shares(plan, weight):
    return [[sum(many for row, many in zip(plan[1], weight) if row[form] == filling) for filling in range(size)]
            for form, size in enumerate(plan[0])]


def is_balanced(plan, weight):
    return all(row[0] > 0 and len(set(row)) == 1 for row in shares(plan, weight))


def row_prices(plan, prices):
    return [sum(prices[form][filling] for form, filling in enumerate(row)) for row in plan[1]]


def paper_is_right(plan, start, paper):
    """Whether a paper of right form holds of a start, word by word."""
    word, told = paper
    at = plan[1].index(start)
    if word == "carried":
        return is_balanced(plan, told) and told[at] > 0
    sums = row_prices(plan, told)
    if any(sum(row) != 0 for row in told):
        return False
    return min(sums) > 0 if word == "none" else min(sums) >= 0 and sums[at] > 0


def quotient(plan, weight):
    """The quotient of a weight; None if some share is 0."""
    rows = shares(plan, weight)
    return None if min(map(min, rows)) == 0 else max(Fraction(max(row), min(row)) for row in rows)


def bound_is_right(plan, bound, paper):
    """Whether a paper of right form holds of a bound, word by word."""
    word, told = paper
    if word == "weight":
        found = quotient(plan, told)
        return found is not None and found <= Fraction(*bound)
    for row in told:
        above, below = sum(price for price in row if price > 0), sum(-price for price in row if price < 0)
        if above * bound[0] > below * bound[1]:
            return False
    return min(row_prices(plan, told)) > 0
