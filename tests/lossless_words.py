"""What lossless and forgetful mean, by their words, and machines that are so, for several tests."""

from functools import lru_cache
from random import Random

from helpers import bonds_of, full, is_even, lots, settings, small_bonds, some_bonds, some_machine, some_machines, step, walk
from test_alike import alikeness, doubled
from test_machines import shown_bond
from setitback.alike import parting
from setitback.weights import balanced


def coming_runs(machine):
    """The first runs of all that can come, the shortest first, then ascending: each goes on from a first run."""
    found, level = {machine[0]: ()}, [()]
    while level:
        following = sorted((*run, setting) for run in level for setting in settings(shown_bond(machine[1])))
        level = []
        for run in following:
            x = walk(machine, machine[0], run)
            if x not in found:
                found[x] = run
                level.append(run)
    return list(found.values())


def back(machine, x, setting):
    """The situation behind a setting and, if it set another filling, the setting back of what stood."""
    side, filling = setting
    found = step(machine, x, setting)
    stood = machine[1][x][side]
    return found if filling == stood else step(machine, found, (side, stood))


def lost_there(machine, x, groups):
    """(setting, parting run) of the least setting that is lost at a situation, by trying."""
    bond = shown_bond(machine[1])
    for setting in settings(bond):
        found = back(machine, x, setting)
        if found not in groups[x]:
            return setting, parting(machine, x, found)
    return None


def loss_by_words(machine):
    bond = shown_bond(machine[1])
    groups = alikeness(machine, bond)
    for run in coming_runs(machine):
        lost = lost_there(machine, walk(machine, machine[0], run), groups)
        if lost is not None:
            return (run, *lost)
    return None


def kept_by_words(machine):
    bond = shown_bond(machine[1])
    groups = alikeness(machine, bond)
    for run in coming_runs(machine):
        x = walk(machine, machine[0], run)
        for one in settings(bond):
            for other in settings(bond):
                if one[0] != other[0]:
                    continue
                found, alone = walk(machine, x, (one, other)), step(machine, x, other)
                if found not in groups[alone]:
                    return run, one, other, parting(machine, found, alone)
    return None


def classes_by_words(machine):
    """The classes of alike situations that can come, ordered by their least."""
    bond = shown_bond(machine[1])
    groups = alikeness(machine, bond)
    coming = set(depths(machine))
    return sorted({tuple(sorted(groups[x] & coming)) for x in coming})


def depths(machine):
    """By situation that can come how many settings its first run has."""
    depth, row = {machine[0]: 0}, [machine[0]]
    for x in row:
        for rows in machine[2][x]:
            for found in rows:
                if found not in depth:
                    depth[found] = depth[x] + 1
                    row.append(found)
    return depth


@lru_cache(None)
def crosses(bond, start):
    """Whether a start of an even bond crosses a tight lot of side 0, by the words."""
    for lot in lots(bond[0]):
        others = {t for s, t in bond[2] if s in lot}
        if len(lot) * bond[1] == len(others) * bond[0] and start[1] in others and start[0] not in lot:
            return True
    return False


def some_weight(random, bond, many):
    """A balanced weight of an even bond: so many of the least size together."""
    weights = [balanced(bond, random.choice([None, *[pair for pair in bond[2] if not crosses(bond, pair)]])) for _ in range(many)]
    return tuple(map(sum, zip(*weights)))


def lossless_machine(random, bond, weight, forgets=False):
    """A machine with each pair as often as the weight tells, where settings are undone by setting back.

    Between any two fillings its settings join what shows them in any way; if it forgets, row by row.
    """
    kinds = [pair for pair, many in zip(bond[2], weight) for _ in range(many)]
    random.shuffle(kinds)
    moves = [[[x] * bond[0], [x] * bond[1]] for x in range(len(kinds))]
    for side in (0, 1):
        lots_shown = [[x for x, kind in enumerate(kinds) if kind[side] == filling] for filling in range(bond[side])]
        for lot in lots_shown:
            random.shuffle(lot)
        for one in range(bond[side]):
            for other in range(one):
                far = list(lots_shown[other])
                if not forgets:
                    random.shuffle(far)
                for x, y in zip(lots_shown[one], far):
                    moves[x][side][other], moves[y][side][one] = y, x
    return random.randrange(len(kinds)), tuple(kinds), tuple(tuple(map(tuple, rows)) for rows in moves)


def even_bonds():
    found = [bond for bond in small_bonds(3) if is_even(bond)]
    return found + [bond for bond in some_bonds(5, 300, 5) if is_even(bond)] + [full(6, 4), full(5, 6)]


def lossless_machines(seed, many, most=14):
    """Machines that lose nothing, forgetful ones among them, some with alike situations, with up to so many."""
    random = Random(seed)
    bonds = [bond for bond in even_bonds() if sum(balanced(bond, None)) <= most]
    found = []
    while len(found) < many:
        bond = random.choice(bonds)
        weight = some_weight(random, bond, random.randint(1, 3))
        if sum(weight) <= most:
            machine = lossless_machine(random, bond, weight, random.random() < 0.4)
            found.append(doubled(random, machine) if random.random() < 0.3 else machine)
    return found


@lru_cache(None)
def mixed_machines():
    """Machines of which some lose at once, some later, some never."""
    random = Random(17)
    found = [machine for _, machine in some_machines(91, 220, 6)] + lossless_machines(92, 90, 8)
    for machine in lossless_machines(93, 260, 10):
        # One setting led elsewhere makes most of them lose, many of them behind a run alone.
        start, kinds, moves = machine
        x, side = random.choice([x for x in range(len(kinds)) if x != start or len(kinds) == 1]), random.randrange(2)
        filling = random.randrange(len(moves[x][side]))
        others = [y for y, kind in enumerate(kinds) if kind[side] == filling and y != moves[x][side][filling]]
        if others:
            rows = [list(row) for row in moves[x]]
            rows[side][filling] = random.choice(others)
            found.append((start, kinds, (*moves[:x], tuple(map(tuple, rows)), *moves[x + 1:])))
    small = list(bonds_of(1, 2)) + list(bonds_of(2, 2))
    found += [some_machine(random, bond, len(bond[2]) + random.randrange(3)) for bond in small for _ in range(6)]
    return tuple(found)
