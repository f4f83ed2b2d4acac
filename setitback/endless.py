"""What endless machines are passed, whose situations are all numbers, and where their settings lead."""

from setitback.anyvalue import is_number
from setitback.errors import NoSituation, Refused
from setitback.machines import run_of, setting_of


def check_number(value):
    """Any value as a number; Refused if it is none."""
    if not is_number(value):
        raise Refused(value)
    return value


def check_from_one(value):
    """Any value as an integer from 1 on; Refused if it is none."""
    if not is_number(value) or value == 0:
        raise Refused(value)
    return value


def check_endless(situation):
    """Any value as a situation of an endless machine; NoSituation if it is none."""
    if not is_number(situation):
        raise NoSituation(situation)
    return situation


def put_at(machine, situation, setting):
    """The situation of an endless machine behind a setting: of the same rank among those that show what is set."""
    check_endless(situation)
    side, filling = setting_of(machine.bond, setting)
    return machine.nth(side, filling, machine.rank(situation, side))


def led_from(machine, situation, run):
    """The situation of an endless machine behind a run."""
    check_endless(situation)
    for side, filling in run_of(machine.bond, run):
        situation = machine.nth(side, filling, machine.rank(situation, side))
    return situation
