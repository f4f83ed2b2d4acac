"""Still machines: where what fits what is set is never touched."""

from setitback.bonds import check_bond
from setitback.lots import degrees_of, pieces_of
from setitback.machines import machine_with
from setitback.quotients import least_common, lowest_terms
from setitback.shares import sided
from setitback.situations import behind, first_runs, settings_in
from setitback.tight import check_start
from setitback.weaving import copies


def with_set(pair, side, filling):
    """The pair with this filling on a side, and on the other one what it has."""
    return sided(side, filling, pair[1 - side])


def touches(bond, machine, situation, setting):
    """Whether a setting changes the other form though what it showed fits what is set."""
    side, filling = setting
    untouched = with_set(machine[1][situation], side, filling)
    return untouched in bond[2] and machine[1][behind(machine, situation, setting)] != untouched


def touched(bond, machine):
    """(The first run behind which a setting touches what fits, the least such setting); None if it is still."""
    bond = check_bond(bond)
    machine = machine_with(bond, machine)
    for situation, run in first_runs(machine).items():
        for setting in settings_in(bond):
            if touches(bond, machine, situation, setting):
                return run, setting
    return None


def is_still(bond, machine):
    """Whether a machine never touches what fits."""
    return touched(bond, machine) is None


def degree_bar(bond, pieces):
    """("degree", side, one, other) of the least two of a piece that unlike numbers fit; None if there are none."""
    for side in (0, 1):
        many = degrees_of(bond, side)
        found = [
            (one, other) for piece in pieces for one in piece[side] for other in piece[side]
            if many[one] != many[other]
        ]
        if found:
            return ("degree", side, *min(found))
    return None


def size_bar(pieces):
    """("sizes", 0, at) of the first piece whose sizes have another quotient than the first's; None if there is none."""
    quotients = [lowest_terms(len(lot), len(others)) for lot, others in pieces]
    for at, quotient in enumerate(quotients):
        if quotient != quotients[0]:
            return "sizes", 0, at
    return None


def bar_of(bond):
    """What bars still machines of a bond that was looked at; None if nothing does."""
    pieces = pieces_of(bond)
    found = degree_bar(bond, pieces)
    return size_bar(pieces) if found is None else found


def still_bar(bond):
    """What bars finite lossless machines of a bond that are still; None if nothing does."""
    return bar_of(check_bond(bond))


def weight_unless_barred(bond):
    """The weight of the least still machine of a bond that was looked at; None if something bars it."""
    if bar_of(bond) is not None:
        return None
    many = degrees_of(bond, 0)
    common = least_common(many)
    return tuple([common // many[s] for s, _ in bond[2]])


def still_weight(bond):
    """By pair how many classes of the least still machine show it; None if something bars it."""
    return weight_unless_barred(check_bond(bond))


def left_over(bond, kinds, side, one, other):
    """Ascending the situations that show `one` on a side, and on the other one what does not fit `other`."""
    return [
        situation for situation, pair in enumerate(kinds)
        if pair[side] == one and with_set(pair, side, other) not in bond[2]
    ]


def still_behind(bond, kinds, situation, side, filling):
    """The situation behind a setting at the still machine with these kinds."""
    pair = kinds[situation]
    untouched = with_set(pair, side, filling)
    if untouched in bond[2]:
        # The same copy, as two pairs of one piece have equally many.
        return kinds.index(untouched) + situation - kinds.index(pair)
    place = left_over(bond, kinds, side, pair[side], filling).index(situation)
    return left_over(bond, kinds, side, filling, pair[side])[place]


def still_machine(bond, start):
    """The least machine of a start that loses nothing and is still; None if something bars it."""
    bond = check_bond(bond)
    pair = check_start(bond, start)
    weight = weight_unless_barred(bond)
    if weight is None:
        return None
    kinds = copies(bond[2], weight)
    moves = [
        tuple([
            tuple([still_behind(bond, kinds, situation, side, filling) for filling in range(bond[side])])
            for side in (0, 1)
        ])
        for situation in range(len(kinds))
    ]
    return kinds.index(pair), kinds, tuple(moves)
