"""How many situations come within so many settings, how many are due, and losses that are found by counting."""

from math import lcm

from setitback.bonds import check_bond
from setitback.endless import check_from_one, check_number
from setitback.errors import Refused
from setitback.ladder import check_uneven
from setitback.lossless import loss_of, lost_among, lost_here
from setitback.lots import greatest_of, product_of_greatest
from setitback.machines import bonded
from setitback.quotients import rounded_up
from setitback.rungs import greatest_two
from setitback.situations import alikeness, behind, first_runs
from setitback.tight import check_start, is_bounded


def first_of_classes(machine):
    """By class that can come (how many settings its first run has, the pair that it shows), in that order."""
    groups = alikeness(machine)
    found = {}
    for situation, run in first_runs(machine).items():
        if groups[situation] not in found:
            found[groups[situation]] = (len(run), machine[1][situation])
    return list(found.values())


def most_alike(values):
    """How often the most frequent of some values stands."""
    return max([values.count(value) for value in values])


def counted(machine, many):
    """By number of settings: (how many classes come within it, the most that show one filling of side 0, of side 1)."""
    machine = bonded(machine)[1]
    many = check_number(many)
    firsts = first_of_classes(machine)
    rows = []
    for settings in range(many + 1):
        pairs = [pair for length, pair in firsts if length <= settings]
        rows.append((len(pairs), most_alike([s for s, _ in pairs]), most_alike([t for _, t in pairs])))
    return tuple(rows)


def bound_of(bond, pair):
    """The least common multiple of both sizes if a start is bounded, else None."""
    return lcm(bond[0], bond[1]) if is_bounded(bond, pair) else None


def next_due(bond, quotients, bound, row):
    """The row that is due behind another one."""
    p, q = quotients
    most, rows, columns = row
    following = max(bond[0] * rows, bond[1] * columns, most + 1)
    if bound is not None:
        following = min(following, bound)
    return following, max(rows, rounded_up(q, columns)), max(columns, rounded_up(p, rows))


def due(bond, start, many):
    """By number of settings the row that is due where nothing is lost, for `counted`."""
    bond = check_bond(bond)
    pair = check_start(bond, start)
    many = check_number(many)
    quotients, bound = greatest_two(bond), bound_of(bond, pair)
    rows = [(1, 1, 1)]
    for _ in range(many):
        rows.append(next_due(bond, quotients, bound, rows[-1]))
    return tuple(rows)


def commonest(values):
    """The value that stands most often, the least of such."""
    most = most_alike(values)
    return min([value for value in values if values.count(value) == most])


class Counting:
    """Levels of runs at a machine that was looked at; by level the settings to the fillings of its greatest lot."""

    def __init__(self, bond, machine):
        self.machine = machine
        self.groups = alikeness(machine)
        self.settings = [[(side, filling) for filling in greatest_of(bond, side)[1]] for side in (0, 1)]
        self.levels = [[((), machine[0])]]
        while self.losing() is None:
            self.levels.append(self.next_level())

    def settings_now(self):
        """The settings of the last level."""
        return self.settings[(len(self.levels) - 1) & 1]

    def losing(self):
        """(run, situation) of the first run of the last level behind which a setting is lost; None if none is."""
        for run, situation in self.levels[-1]:
            if lost_among(self.machine, self.groups, situation, self.settings_now()) is not None:
                return run, situation
        return None

    def next_level(self):
        """The runs of the last level gone on with, but only where the other side shows what most of them show."""
        longer = []
        for run, situation in self.levels[-1]:
            for setting in self.settings_now():
                longer.append((run + (setting,), behind(self.machine, situation, setting)))
        other = len(self.levels) & 1
        shows = [self.machine[1][situation][other] for _, situation in longer]
        most = commonest(shows)
        return [entry for entry, filling in zip(longer, shows) if filling == most]


def counting_of(value):
    """The counting at any value as a machine; Refused if its bond is even."""
    bond, machine = bonded(value)
    if product_of_greatest(bond) == (1, 1):
        raise Refused(value)
    return Counting(bond, machine)


def levels(machine):
    """All levels, each of ascending runs, up to the one behind a run of which a setting is lost."""
    return tuple([tuple([run for run, _ in level]) for level in counting_of(machine).levels])


def narrow(machine):
    """(run, setting, parting run): the least run of the last level behind which a setting is lost, and this one."""
    counting = counting_of(machine)
    run, situation = counting.losing()
    return (run, *lost_here(counting.machine, counting.groups, situation, counting.settings_now()))


def narrow_number(bond, many):
    """The first level at which so many classes are too few for its runs and the settings behind them."""
    bond = check_uneven(bond)
    many = check_from_one(many)
    told = [greatest_of(bond, side) for side in (0, 1)]
    level = 0
    runs = 1
    while runs * len(told[level & 1][1]) <= many:
        runs = rounded_up(told[level & 1][0], runs)
        level = level + 1
    return level


def told_of(bond, pair, many):
    """The greatest number of settings whose row that is due has at most so many; None if all rows have."""
    quotients, bound = greatest_two(bond), bound_of(bond, pair)
    if bound is not None and bound <= many:
        return None
    settings = -1
    row = (1, 1, 1)
    while row[0] <= many:
        row = next_due(bond, quotients, bound, row)
        settings = settings + 1
    return settings


def told_number(bond, start, many):
    """How many settings it takes at most until a machine of so many classes loses; None if it need not lose."""
    bond = check_bond(bond)
    pair = check_start(bond, start)
    return told_of(bond, pair, check_from_one(many))


def judged(machine):
    """("lossless", how many classes can come), or ("loses", how many, the told number, the loss)."""
    bond, machine = bonded(machine)
    many = len(first_of_classes(machine))
    lost = loss_of(machine)
    if lost is None:
        return "lossless", many
    return "loses", many, told_of(bond, machine[1][machine[0]], many), lost
