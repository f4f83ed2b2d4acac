"""Forms of fields and their fillings; settings and runs, and the octets of these."""

from setitback.anyvalue import is_below, is_row_below, is_sequence, is_within
from setitback.errors import NoFilling, Refused
from setitback.octets import check_octets, check_place, octet_at

MOST_FIELDS = 4
MOST_FILLINGS = 6


def product_of(numbers):
    worth = 1
    for number in numbers:
        worth = worth * number
    return worth


def is_fields(value):
    if not is_sequence(value) or not 1 <= len(value) <= MOST_FIELDS:
        return False
    # Each one is looked at first, so that only integers are multiplied.
    return all([is_within(many, 1, MOST_FILLINGS) for many in value]) and product_of(value) <= MOST_FILLINGS


def check_fields(value):
    """Any value as fields, a tuple; Refused if it is none."""
    if not is_fields(value):
        raise Refused(value)
    return tuple(value)


def filling_count(fields):
    """How many fillings a form of these fields has."""
    return product_of(check_fields(fields))


def number_of(fields, row):
    """The number of a row that was looked at: its first field weighs most."""
    filling = 0
    for many, value in zip(fields, row):
        filling = filling * many + value
    return filling


def row_of(fields, filling):
    """The row of a filling that was looked at."""
    row = []
    for many in reversed(fields):
        filling, value = divmod(filling, many)
        row.insert(0, value)
    return tuple(row)


def filling_of(fields, values):
    """The number of a row; Refused if it is no row of this form."""
    fields = check_fields(fields)
    if not is_row_below(values, fields):
        raise Refused(values)
    return number_of(fields, values)


def values_of(fields, filling):
    """The row of a number; NoFilling if it is no filling of this form."""
    fields = check_fields(fields)
    if not is_below(filling, product_of(fields)):
        raise NoFilling(filling)
    return row_of(fields, filling)


def with_value(fields, filling, at, value):
    """The number of the row that has this value in the field `at`, and else what the filling has."""
    row = list(values_of(fields, filling))
    if not is_below(at, len(fields)):
        raise Refused(at)
    if not is_below(value, fields[at]):
        raise Refused(value)
    row[at] = value
    return number_of(fields, row)


def is_setting(value):
    """Whether any value is a side and a number that can be a filling of it."""
    return is_row_below(value, (2, MOST_FILLINGS))


def check_setting(value):
    """Any value as a setting, a tuple; Refused if it is none."""
    if not is_setting(value):
        raise Refused(value)
    return tuple(value)


def check_run(value):
    """Any value as a run, of tuples; Refused if it is none."""
    if not is_sequence(value) or not all([is_setting(setting) for setting in value]):
        raise Refused(value)
    return tuple([tuple(setting) for setting in value])


def setting_octets(setting):
    """The two octets of a setting."""
    return check_setting(setting)


def write_run(run):
    """The octets of a run: those of its settings, one behind another."""
    return tuple([octet for setting in check_run(run) for octet in setting])


def setting_from(octets, at, sizes):
    """The setting that begins at a place of octets, of forms of such sizes; all looked at; Broken if none does."""
    side = octet_at(octets, at, 0, 1)
    return side, octet_at(octets, at + 1, 0, sizes[side] - 1)


def setting_at(octets, at):
    """(The setting whose octets begin at this place, the place behind them); Broken if none do."""
    octets = check_octets(octets)
    at = check_place(at)
    return setting_from(octets, at, (MOST_FILLINGS, MOST_FILLINGS)), at + 2


def run_from(octets, at, sizes):
    """(The settings that stand from a place on, the place behind them), likewise; Broken where an octet is none."""
    whole = len(octets) - (len(octets) - at) % 2
    run = tuple([setting_from(octets, place, sizes) for place in range(at, whole, 2)])
    if whole < len(octets):
        # What is cut off within a setting must at least begin one.
        octet_at(octets, whole, 0, 1)
    return run, whole


def read_run(octets):
    """(The settings that stand from the beginning on, the place behind them); Broken if an octet is none of a run."""
    return run_from(check_octets(octets), 0, (MOST_FILLINGS, MOST_FILLINGS))
