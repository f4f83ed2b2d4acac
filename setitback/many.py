"""Any relation of two or three forms: balanced weights or prices, the least quotients of shares, machines."""

from math import gcd

from setitback.anyvalue import are_numbers, is_row, is_whole, is_within, is_word
from setitback.bonds import check_bond
from setitback.carrying import are_alike_shares
from setitback.errors import Refused
from setitback.plans import MOST_OF_A_FORM, check_plan, check_plan_start, plan_shares_of, plan_weight
from setitback.rays import ray_or_prices
from setitback.weaving import copies, moves_by_place

MOST_STEPS = 100


def plan_of(bond):
    """The plan of a bond; Refused if a side has more fillings than a form of a plan may have."""
    m, n, pairs = check_bond(bond)
    if max(m, n) > MOST_OF_A_FORM:
        raise Refused(bond)
    return (m, n), pairs


def limits_of(plan, bound):
    """Limits of the numbers of rows, and of one more for each form: times these shares lie from bottom to top."""
    sizes, rows = plan
    top, bottom = bound
    limits = []
    for form, many in enumerate(sizes):
        own = [1 if other == form else 0 for other in range(len(sizes))]
        for filling in range(many):
            having = [1 if row[form] == filling else 0 for row in rows]
            limits.append(having + [-top * here for here in own])
            limits.append([-here for here in having] + [bottom * here for here in own])
    return limits


def divided(numbers):
    """Integers divided by the greatest common divisor of them all."""
    common = 0
    for number in numbers:
        common = gcd(common, number)
    return [number // max(common, 1) for number in numbers]


def by_filling(sizes, numbers):
    """Numbers by form and filling, told in one row."""
    rows = []
    for many in sizes:
        rows.append(tuple(numbers[:many]))
        numbers = numbers[many:]
    return tuple(rows)


def weight_or_prices(plan, bound, goal):
    """("weight", some of no greater quotient that gives the rows of the goal more than 0), or ("prices", some).

    The goal has 0 or 1 by row, and the weight gives some row with 1 more than 0. Prices give those rows more than 0 and
    the others no less; in each form those above 0, times top, come to no more than those below 0, times bottom.
    """
    sizes, rows = plan
    word, numbers = ray_or_prices(limits_of(plan, bound), list(goal) + [0] * len(sizes))
    if word == "ray":
        return "weight", tuple(divided(numbers[:len(rows)]))
    # Of each filling the first limit bars more, the second one less.
    return "prices", by_filling(sizes, divided([more - less for more, less in zip(numbers[::2], numbers[1::2])]))


def all_rows(plan):
    """The goal that any row has something."""
    return [1] * len(plan[1])


def summed_up(prices):
    """Prices whose forms come to 0, by raising those of filling 0, where no form comes to more."""
    return tuple([(row[0] - sum(row), *row[1:]) for row in prices])


def plan_paper(plan, start):
    """("carried", weight), ("none", prices) if no weight is balanced, or ("crossed", prices)."""
    plan = check_plan(plan)
    start = check_plan_start(plan, start)
    word, found = weight_or_prices(plan, (1, 1), [1 if row == start else 0 for row in plan[1]])
    if word == "weight":
        return "carried", found
    word, all_above = weight_or_prices(plan, (1, 1), all_rows(plan))
    return ("crossed", summed_up(found)) if word == "weight" else ("none", summed_up(all_above))


def are_prices(plan, value):
    """Whether any value gives each filling of each form an integer."""
    if not is_row(value, len(plan[0])) or not all([is_row(row, many) for row, many in zip(value, plan[0])]):
        return False
    return all([is_whole(price) for row in value for price in row])


def row_sums(plan, prices):
    """By row of the plan the prices of its fillings, added."""
    return [sum([prices[form][filling] for form, filling in enumerate(row)]) for row in plan[1]]


def is_balanced_plan(plan, weight):
    return all([are_alike_shares(shares) for shares in plan_shares_of(plan, weight)])


def carries(plan, start, value):
    """Whether any value is a balanced weight in which the start has more than 0."""
    if not are_numbers(value, len(plan[1])):
        return False
    return value[plan[1].index(start)] > 0 and is_balanced_plan(plan, value)


def are_even_prices(plan, value):
    """Whether any value is prices by which each form's sum is 0."""
    return are_prices(plan, value) and not any([sum(row) for row in value])


def plan_holds(plan, start, value):
    """Whether any value is such a paper of the start."""
    plan = check_plan(plan)
    start = check_plan_start(plan, start)
    if not is_row(value, 2):
        return False
    if is_word(value[0], "carried"):
        return carries(plan, start, value[1])
    if not are_even_prices(plan, value[1]):
        return False
    sums = row_sums(plan, value[1])
    if is_word(value[0], "none"):
        return min(sums) > 0
    return is_word(value[0], "crossed") and min(sums) >= 0 and sums[plan[1].index(start)] > 0


def check_bound(bound):
    """Any value as a bound, a tuple; Refused if it is none."""
    if not is_row(bound, 2) or not is_whole(bound[0]) or not is_whole(bound[1]) or not 1 <= bound[1] <= bound[0]:
        raise Refused(bound)
    return tuple(bound)


def bound_paper(plan, bound):
    """("weight", some of no greater quotient), or ("prices", some that show that there is none)."""
    plan = check_plan(plan)
    return weight_or_prices(plan, check_bound(bound), all_rows(plan))


def is_within_bound(shares, bound):
    """Whether the greatest share of a form by the least one is no more than the bound; no share may be 0."""
    return min(shares) > 0 and max(shares) * bound[1] <= min(shares) * bound[0]


def are_paid(prices, bound):
    """Whether those of a form above 0, times top, come to no more than those below 0, without signs, times bottom."""
    above = sum([price for price in prices if price > 0])
    return above * bound[0] <= (above - sum(prices)) * bound[1]


def bound_holds(plan, bound, value):
    """Whether any value is such a paper of the bound."""
    plan = check_plan(plan)
    bound = check_bound(bound)
    if not is_row(value, 2):
        return False
    if is_word(value[0], "weight"):
        if not are_numbers(value[1], len(plan[1])):
            return False
        return all([is_within_bound(shares, bound) for shares in plan_shares_of(plan, value[1])])
    if not is_word(value[0], "prices") or not are_prices(plan, value[1]):
        return False
    return min(row_sums(plan, value[1])) > 0 and all([are_paid(prices, bound) for prices in value[1]])


def least_step(plan, many):
    """The least integer k such that some weight has no greater quotient than k / many."""
    plan = check_plan(plan)
    if not is_within(many, 1, MOST_STEPS):
        raise Refused(many)
    goal = all_rows(plan)
    # The weight that gives each row 1 shows one that is enough.
    shares = plan_shares_of(plan, goal)
    low, high = many, max([-(-many * max(form) // min(form)) for form in shares])
    while low < high:
        middle = (low + high) // 2
        if weight_or_prices(plan, (middle, many), goal)[0] == "weight":
            high = middle
        else:
            low = middle + 1
    return low


def plan_machine(plan, weight, start):
    """The machine with each row as many times as its weight, where settings keep the place among what they show."""
    plan = check_plan(plan)
    sizes, rows = plan
    numbers = plan_weight(plan, weight)
    if not is_balanced_plan(plan, numbers):
        raise Refused(weight)
    row = check_plan_start(plan, start)
    if numbers[rows.index(row)] == 0:
        raise Refused(start)
    kinds = copies(rows, numbers)
    return kinds.index(row), kinds, moves_by_place(kinds, sizes)
