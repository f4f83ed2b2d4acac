"""Settings and runs of a bond; machines, and where settings lead in them."""

from setitback.anyvalue import are_below, are_rows, is_below, is_row, is_sequence, is_side
from setitback.bonds import check_bond
from setitback.errors import BadMachine, NoSituation, Refused
from setitback.forms import MOST_FILLINGS
from setitback.situations import behind, behind_all, first_runs, renumbered, settings_in

MOST_SITUATIONS = 400


def is_setting_of(bond, value):
    """Whether any value is a setting of a bond that was looked at."""
    return is_row(value, 2) and is_side(value[0]) and is_below(value[1], bond[value[0]])


def setting_of(bond, value):
    """Any value as a setting of a bond that was looked at, a tuple; Refused if it is none."""
    if not is_setting_of(bond, value):
        raise Refused(value)
    return tuple(value)


def need_setting(bond, value):
    """Any value as a setting, a tuple; Refused if it is none."""
    return setting_of(check_bond(bond), value)


def run_of(bond, run):
    """Any value as a run of a bond that was looked at, of tuples; Refused with what is none."""
    if not is_sequence(run):
        raise Refused(run)
    return tuple([setting_of(bond, setting) for setting in run])


def need_run(bond, run):
    """Any value as a run, of tuples; Refused if it is no sequence, else with its first item that is no setting."""
    return run_of(check_bond(bond), run)


def settings_of(bond):
    """All settings, ascending."""
    return tuple(settings_in(check_bond(bond)))


def kinds_of(value):
    """Any value as 1 to 400 pairs of numbers that can be fillings, of tuples; BadMachine(1) if it is none."""
    if not is_sequence(value) or not 1 <= len(value) <= MOST_SITUATIONS or not are_rows(value, 2):
        raise BadMachine(1)
    if not are_below([filling for pair in value for filling in pair], MOST_FILLINGS):
        raise BadMachine(1)
    return tuple([tuple(pair) for pair in value])


def kinds_with(bond, value):
    """Any value as the kinds of a machine of a bond that was looked at, of tuples; BadMachine(1) if it is none."""
    kinds = kinds_of(value)
    if not all([pair in bond[2] for pair in sorted(set(kinds))]):
        raise BadMachine(1)
    return kinds


def bond_shown(kinds):
    """The bond of the pairs that kinds show; BadMachine(1) if they are no bond's."""
    pairs = sorted(set(kinds))
    rows = sorted({s for s, _ in pairs})
    columns = sorted({t for _, t in pairs})
    if rows[-1] >= len(rows) or columns[-1] >= len(columns):
        raise BadMachine(1)
    return len(rows), len(columns), tuple(pairs)


def leads_rightly(kinds, side, many, rows):
    """Whether rows of situations, by filling of a side, of which there are so many, lead to what shows the filling."""
    return [kinds[found][side] for row in rows for found in row] == list(range(many)) * len(rows)


def moves_with(bond, kinds, value):
    """Any value as the moves of a machine with these kinds, of tuples; BadMachine(2) if it is none."""
    if not is_row(value, len(kinds)) or not are_rows(value, 2):
        raise BadMachine(2)
    left = [rows for rows, _ in value]
    right = [rows for _, rows in value]
    if not are_rows(left, bond[0]) or not are_rows(right, bond[1]):
        raise BadMachine(2)
    if not are_below([found for row in left + right for found in row], len(kinds)):
        raise BadMachine(2)
    if not leads_rightly(kinds, 0, bond[0], left) or not leads_rightly(kinds, 1, bond[1], right):
        raise BadMachine(2)
    return tuple([(tuple(row), tuple(column)) for row, column in zip(left, right)])


def machine_from(bond, kinds, start, moves):
    """The machine of kinds that were looked at and any values as its start and moves; BadMachine if they are none."""
    if not is_below(start, len(kinds)):
        raise BadMachine(0)
    return start, kinds, moves_with(bond, kinds, moves)


def machine_with(bond, value):
    """Any value as a machine of a bond that was looked at, of tuples; BadMachine if it is none."""
    if not is_row(value, 3):
        raise BadMachine(-1)
    start, kinds, moves = value
    return machine_from(bond, kinds_with(bond, kinds), start, moves)


def check_machine(bond, value):
    """Any value as a machine of the bond, of tuples; BadMachine if it is none."""
    return machine_with(check_bond(bond), value)


def bonded(value):
    """(The bond of the pairs shown, the machine) of any value; BadMachine if it is no machine."""
    if not is_row(value, 3):
        raise BadMachine(-1)
    start, kinds, moves = value
    kinds = kinds_of(kinds)
    bond = bond_shown(kinds)
    return bond, machine_from(bond, kinds, start, moves)


def check_situation(machine, situation):
    """Any value as a situation of a machine that was looked at; NoSituation if it is none."""
    if not is_below(situation, len(machine[1])):
        raise NoSituation(situation)
    return situation


def bond_of(machine):
    """The bond of the pairs that a machine's situations show."""
    return bonded(machine)[0]


def shown(machine, situation):
    """The pair that a situation shows."""
    machine = bonded(machine)[1]
    return machine[1][check_situation(machine, situation)]


def put(machine, situation, setting):
    """The situation behind a setting."""
    bond, machine = bonded(machine)
    situation = check_situation(machine, situation)
    return behind(machine, situation, setting_of(bond, setting))


def led(machine, situation, run):
    """The situation behind a run."""
    bond, machine = bonded(machine)
    situation = check_situation(machine, situation)
    return behind_all(machine, situation, run_of(bond, run))


def seen(machine, run):
    """The pairs that are shown at the start and behind each setting of a run."""
    bond, machine = bonded(machine)
    situation = machine[0]
    pairs = [machine[1][situation]]
    for setting in run_of(bond, run):
        situation = behind(machine, situation, setting)
        pairs.append(machine[1][situation])
    return tuple(pairs)


def come(machine):
    """Ascending, what can come."""
    return tuple(sorted(first_runs(bonded(machine)[1])))


def come_by(machine, situation):
    """The first run that leads from the start to a situation; None if it cannot come."""
    machine = bonded(machine)[1]
    return first_runs(machine).get(check_situation(machine, situation))


def trimmed(machine):
    """The machine of what can come alone, numbered in the order of first runs."""
    machine = bonded(machine)[1]
    runs = first_runs(machine)
    return renumbered(machine, {situation: at for at, situation in enumerate(runs)}, len(runs))
