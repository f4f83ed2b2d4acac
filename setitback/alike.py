"""Situations that no run tells apart, the least machine, and machines that are apart."""

from setitback.errors import Refused
from setitback.machines import bonded, check_situation
from setitback.situations import alikeness, first_runs, numbered, parting_run, renumbered


def classes_of(machine):
    """The classes of alike situations among those that can come, of a machine that was looked at."""
    groups = alikeness(machine)
    members = {}
    for situation in sorted(first_runs(machine)):
        members.setdefault(groups[situation], []).append(situation)
    return tuple([tuple(lot) for lot in members.values()])


def placed(machine):
    """(The least situation of each class that can come, by situation that can come the place of its class)."""
    found = classes_of(machine)
    return [lot[0] for lot in found], {situation: at for at, lot in enumerate(found) for situation in lot}


def classes(machine):
    """The classes of alike situations among those that can come, ordered by their least."""
    return classes_of(bonded(machine)[1])


def class_of(machine, situation):
    """The place of a situation's class among the classes; None if it cannot come."""
    machine = bonded(machine)[1]
    situation = check_situation(machine, situation)
    for at, lot in enumerate(classes_of(machine)):
        if situation in lot:
            return at
    return None


def parting(machine, x, y):
    """The first run that shows unlike pairs behind two situations; None if they are alike."""
    machine = bonded(machine)[1]
    x = check_situation(machine, x)
    return parting_run(machine, x, machine, check_situation(machine, y))


def are_alike(machine, x, y):
    """Whether no run shows unlike pairs behind two situations."""
    return parting(machine, x, y) is None


def made_least(machine):
    """The machine with a situation for each class that can come, numbered in the order of first runs."""
    machine = bonded(machine)[1]
    groups = alikeness(machine)
    runs = list(first_runs(machine))
    places = numbered([groups[situation] for situation in runs])
    return renumbered(machine, {situation: place for situation, place in zip(runs, places)}, 1 + max(places))


def apart(machine, other):
    """The first run behind which two machines show unlike pairs from their starts; None if none does."""
    bond, machine = bonded(machine)
    more, facing = bonded(other)
    if bond[:2] != more[:2]:
        raise Refused(other)
    return parting_run(machine, machine[0], facing, facing[0])
