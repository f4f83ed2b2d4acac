"""Settings and runs of a bond; machines, and where settings lead in them."""

from setitback.anyvalue import is_below, is_row, is_row_below, is_sequence, is_side
from setitback.bonds import bond_with, check_bond
from setitback.errors import BadBond, BadMachine, NoSituation, Refused
from setitback.forms import MOST_FILLINGS
from setitback.lots import is_pair_of
from setitback.situations import behind, behind_all, first_runs, renumbered, settings_in

MOST_SITUATIONS = 400


def is_setting_of(bond, value):
    """Whether any value is a setting of a bond that was looked at."""
    return is_row(value, 2) and is_side(value[0]) and is_below(value[1], bond[value[0]])


def setting_of(bond, value):
    """Any value as a setting of a bond that was looked at, a tuple; Refused if it is none."""
    if not is_setting_of(bond, value):
        raise Refused(value)
    return tuple(value)


def need_setting(bond, value):
    """Any value as a setting, a tuple; Refused if it is none."""
    return setting_of(check_bond(bond), value)


def run_of(bond, run):
    """Any value as a run of a bond that was looked at, of tuples; Refused with what is none."""
    if not is_sequence(run):
        raise Refused(run)
    return tuple([setting_of(bond, setting) for setting in run])


def need_run(bond, run):
    """Any value as a run, of tuples; Refused if it is no sequence, else with its first item that is no setting."""
    return run_of(check_bond(bond), run)


def settings_of(bond):
    """All settings, ascending."""
    return tuple(settings_in(check_bond(bond)))


def is_kinds(bond, value):
    """Whether any value gives some situations a pair of the bond each."""
    if not is_sequence(value) or not 1 <= len(value) <= MOST_SITUATIONS:
        return False
    return all([is_pair_of(bond, pair) for pair in value])


def is_move_row(value, side, kinds):
    """Whether any value leads from one filling of a side after another to a situation that shows it."""
    if not all([is_below(found, len(kinds)) for found in value]):
        return False
    return all([kinds[found][side] == filling for filling, found in enumerate(value)])


def are_moves(bond, kinds, value):
    """Whether any value leads from each situation as a machine with these kinds must."""
    if not is_row(value, len(kinds)) or not all([is_row(rows, 2) for rows in value]):
        return False
    sided = [(side, rows[side]) for rows in value for side in (0, 1)]
    return all([is_row(row, bond[side]) and is_move_row(row, side, kinds) for side, row in sided])


def machine_with(bond, value):
    """Any value as a machine of a bond that was looked at, of tuples; BadMachine if it is none."""
    if not is_row(value, 3):
        raise BadMachine(-1)
    start, kinds, moves = value
    if not is_kinds(bond, kinds):
        raise BadMachine(1)
    if not is_below(start, len(kinds)):
        raise BadMachine(0)
    if not are_moves(bond, kinds, moves):
        raise BadMachine(2)
    shows = tuple([tuple(pair) for pair in kinds])
    return start, shows, tuple([tuple([tuple(row) for row in rows]) for rows in moves])


def check_machine(bond, value):
    """Any value as a machine of the bond, of tuples; BadMachine if it is none."""
    return machine_with(check_bond(bond), value)


def bond_shown(kinds):
    """The bond of the pairs that any value as kinds shows; BadMachine if they are no bond's."""
    if not is_sequence(kinds) or not 1 <= len(kinds) <= MOST_SITUATIONS:
        raise BadMachine(1)
    if not all([is_row_below(pair, (MOST_FILLINGS, MOST_FILLINGS)) for pair in kinds]):
        raise BadMachine(1)
    pairs = [tuple(pair) for pair in kinds]
    sizes = [1 + max([pair[side] for pair in pairs]) for side in (0, 1)]
    try:
        return bond_with(sizes[0], sizes[1], pairs)
    except BadBond:
        raise BadMachine(1) from None


def bonded(value):
    """(The bond of the pairs shown, the machine) of any value; BadMachine if it is no machine."""
    if not is_row(value, 3):
        raise BadMachine(-1)
    bond = bond_shown(value[1])
    return bond, machine_with(bond, value)


def check_situation(machine, situation):
    """Any value as a situation of a machine that was looked at; NoSituation if it is none."""
    if not is_below(situation, len(machine[1])):
        raise NoSituation(situation)
    return situation


def bond_of(machine):
    """The bond of the pairs that a machine's situations show."""
    return bonded(machine)[0]


def shown(machine, situation):
    """The pair that a situation shows."""
    machine = bonded(machine)[1]
    return machine[1][check_situation(machine, situation)]


def put(machine, situation, setting):
    """The situation behind a setting."""
    bond, machine = bonded(machine)
    situation = check_situation(machine, situation)
    return behind(machine, situation, setting_of(bond, setting))


def led(machine, situation, run):
    """The situation behind a run."""
    bond, machine = bonded(machine)
    situation = check_situation(machine, situation)
    return behind_all(machine, situation, run_of(bond, run))


def seen(machine, run):
    """The pairs that are shown at the start and behind each setting of a run."""
    bond, machine = bonded(machine)
    situation = machine[0]
    pairs = [machine[1][situation]]
    for setting in run_of(bond, run):
        situation = behind(machine, situation, setting)
        pairs.append(machine[1][situation])
    return tuple(pairs)


def come(machine):
    """Ascending, what can come."""
    return tuple(sorted(first_runs(bonded(machine)[1])))


def come_by(machine, situation):
    """The first run that leads from the start to a situation; None if it cannot come."""
    machine = bonded(machine)[1]
    return first_runs(machine).get(check_situation(machine, situation))


def trimmed(machine):
    """The machine of what can come alone, numbered in the order of first runs."""
    machine = bonded(machine)[1]
    runs = first_runs(machine)
    return renumbered(machine, {situation: at for at, situation in enumerate(runs)}, len(runs))
