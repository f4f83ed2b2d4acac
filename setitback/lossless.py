"""Settings that are lost at a machine, walking back, forgetful machines, and settings that are one to one."""

from setitback.alike import placed
from setitback.anyvalue import is_below
from setitback.bonds import check_side
from setitback.errors import NoFilling
from setitback.machines import bonded, check_situation, run_of
from setitback.situations import alikeness, back_again, behind, behind_all, first_runs, parting_run, settings_on


def lost_among(machine, groups, situation, settings):
    """The first of some settings that is lost at a situation; None if none is."""
    for setting in settings:
        if groups[back_again(machine, situation, setting)] != groups[situation]:
            return setting
    return None


def lost_here(machine, groups, situation, settings):
    """(The first of some settings that is lost at a situation, its parting run); None if none is lost."""
    setting = lost_among(machine, groups, situation, settings)
    if setting is None:
        return None
    return setting, parting_run(machine, situation, machine, back_again(machine, situation, setting))


def loss_of(machine):
    """(run, setting, parting run) of the first loss of a machine that was looked at; None if it loses nothing."""
    groups = alikeness(machine)
    settings = settings_on(machine)
    for situation, run in first_runs(machine).items():
        lost = lost_here(machine, groups, situation, settings)
        if lost is not None:
            return (run, *lost)
    return None


def lost_at(machine, run):
    """(setting, parting run) of the least setting that is lost behind a run; None if none is lost."""
    bond, machine = bonded(machine)
    situation = behind_all(machine, machine[0], run_of(bond, run))
    return lost_here(machine, alikeness(machine), situation, settings_on(machine))


def loss(machine):
    """(run, setting, parting run): the first run behind which a setting is lost; None if there is none."""
    return loss_of(bonded(machine)[1])


def is_lossless(machine):
    """Whether no setting is lost at any situation that can come."""
    return loss_of(bonded(machine)[1]) is None


def walk_back(machine, situation, run):
    """The settings that set back those of a run, the last one first."""
    bond, machine = bonded(machine)
    situation = check_situation(machine, situation)
    back = []
    for setting in run_of(bond, run):
        back.insert(0, (setting[0], machine[1][situation][setting[0]]))
        situation = behind(machine, situation, setting)
    return tuple(back)


def kept_here(machine, groups, situation):
    """(The least two settings of one side the first of which is not forgotten here, their parting run), or None."""
    for side, row in enumerate(machine[2][situation]):
        for filling, between in enumerate(row):
            for other, alone in enumerate(row):
                found = machine[2][between][side][other]
                if groups[found] != groups[alone]:
                    return (side, filling), (side, other), parting_run(machine, found, machine, alone)
    return None


def kept_of(machine):
    """(run, one, other, parting run) of the first run behind which a machine does not forget; None if it does."""
    groups = alikeness(machine)
    for situation, run in first_runs(machine).items():
        found = kept_here(machine, groups, situation)
        if found is not None:
            return (run, *found)
    return None


def kept(machine):
    """(run, one, other, parting run): the first run behind which the first of two settings is not forgotten."""
    return kept_of(bonded(machine)[1])


def is_forgetful(machine):
    """Whether of two settings of one side, one after another, the second alone matters, for ever."""
    return kept_of(bonded(machine)[1]) is None


def onto(machine, side, one, other):
    """By class that shows the filling `one` on the side the place of the class behind the setting of `other`."""
    bond, machine = bonded(machine)
    many = bond[check_side(side)]
    for filling in (one, other):
        if not is_below(filling, many):
            raise NoFilling(filling)
    firsts, places = placed(machine)
    showing = [situation for situation in firsts if machine[1][situation][side] == one]
    return tuple([places[behind(machine, situation, (side, other))] for situation in showing])
