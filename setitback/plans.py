"""Plans: which fillings of two or three forms fit, told as rows of one filling of each form."""

from setitback.anyvalue import are_within, is_row, is_row_below, is_sequence
from setitback.carrying import shares_by_form
from setitback.errors import Refused
from setitback.shares import weight_for

FEWEST_FORMS = 2
MOST_FORMS = 3
MOST_OF_A_FORM = 3


def are_plan_rows(sizes, value):
    """Whether any value is ascending rows of one filling of each form, each filling in one at least."""
    if not is_sequence(value) or not all([is_row_below(row, sizes) for row in value]):
        return False
    if not all([tuple(value[at - 1]) < tuple(value[at]) for at in range(1, len(value))]):
        return False
    return all([len({row[form] for row in value}) == many for form, many in enumerate(sizes)])


def is_plan(value):
    """Whether any value is a plan."""
    if not is_row(value, 2):
        return False
    sizes, rows = value
    if not are_within(sizes, 1, MOST_OF_A_FORM) or not FEWEST_FORMS <= len(sizes) <= MOST_FORMS:
        return False
    return are_plan_rows(sizes, rows)


def check_plan(value):
    """Any value as a plan, of tuples; Refused if it is none."""
    if not is_plan(value):
        raise Refused(value)
    sizes, rows = value
    return tuple(sizes), tuple([tuple(row) for row in rows])


def check_plan_start(plan, start):
    """Any value as a row of a plan that was looked at, a tuple; Refused if it is none."""
    sizes, rows = plan
    if not is_row_below(start, sizes) or tuple(start) not in rows:
        raise Refused(start)
    return tuple(start)


def plan_weight(plan, value):
    """Any value as a weight of a plan that was looked at, a tuple; BadWeight if it is none."""
    return weight_for(len(plan[1]), value)


def plan_shares_of(plan, weight):
    """By form the shares of its fillings, of a plan and a weight that were looked at."""
    return shares_by_form(plan[0], plan[1], weight)


def plan_shares(plan, weight):
    """By form the shares of its fillings."""
    plan = check_plan(plan)
    return plan_shares_of(plan, plan_weight(plan, weight))
