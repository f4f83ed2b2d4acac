"""Views: what side 1 shows of side 0, what setting it costs, and the complement where all fibres are alike."""

from setitback.anyvalue import is_below, is_sequence
from setitback.bonds import check_bond, check_filling
from setitback.endless import check_number
from setitback.errors import Refused
from setitback.forms import MOST_FILLINGS
from setitback.quotients import lowest_terms, power_rounded_up


def is_a_view(value):
    """Whether any value tells by filling of side 0 what is shown, no number below the greatest one left out."""
    if not is_sequence(value) or not 1 <= len(value) <= MOST_FILLINGS:
        return False
    if not all([is_below(shown, MOST_FILLINGS) for shown in value]):
        return False
    return all([shown in value for shown in range(max(value))])


def check_view(value):
    """Any value as a view, a tuple; Refused if it is none."""
    if not is_a_view(value):
        raise Refused(value)
    return tuple(value)


def view_bond(view):
    """The bond in which each filling fits just what is shown of it."""
    view = check_view(view)
    return len(view), 1 + max(view), tuple(enumerate(view))


def is_bond_of_view(bond):
    return len(bond[2]) == bond[0]


def is_view(bond):
    """Whether a bond is one of a view."""
    return is_bond_of_view(check_bond(bond))


def view_of(bond):
    """The view of which a bond is one; Refused if it is of none."""
    found = check_bond(bond)
    if not is_bond_of_view(found):
        raise Refused(bond)
    return tuple([shown for _, shown in found[2]])


def fibres_of(view):
    """By what is shown the ascending fillings that show it, of a view that was looked at."""
    return tuple([tuple([s for s, found in enumerate(view) if found == t]) for t in range(1 + max(view))])


def fibres(view):
    """By what is shown the ascending fillings that show it."""
    return fibres_of(check_view(view))


def spread_of(view):
    """How many fillings the greatest fibre has by how many the least one, a fraction."""
    sizes = [len(fibre) for fibre in fibres_of(view)]
    return lowest_terms(max(sizes), min(sizes))


def spread(view):
    """How many fillings the greatest fibre has by how many the least one, a fraction."""
    return spread_of(check_view(view))


def fewest(view, many):
    """The least integer not below the spread to the power of many // 2."""
    view = check_view(view)
    return power_rounded_up(spread_of(view), check_number(many) // 2)


def check_alike(value):
    """Any value as a view whose fibres have equally many fillings, a tuple; Refused if it is none."""
    view = check_view(value)
    if spread_of(view) != (1, 1):
        raise Refused(value)
    return view


def place_of(view, s):
    """The place of a filling in its fibre."""
    return fibres_of(view)[view[s]].index(s)


def complement(view, s):
    """The place of a filling in its fibre, of a view whose fibres are all alike."""
    view = check_alike(view)
    return place_of(view, check_filling(s, len(view)))


def put_back(view, s, t):
    """The filling of the same complement that shows t."""
    view = check_alike(view)
    place = place_of(view, check_filling(s, len(view)))
    return fibres_of(view)[check_filling(t, 1 + max(view))][place]


def from_complement(view, place, t):
    """The filling at a place of a fibre that shows t."""
    view = check_alike(view)
    lots = fibres_of(view)
    if not is_below(place, len(lots[0])):
        raise Refused(place)
    return lots[check_filling(t, len(lots))][place]
