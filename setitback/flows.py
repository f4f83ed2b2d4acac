"""Circulations in a net whose arcs carry at least and at most so much, or cuts that bar them."""

from setitback.anyvalue import is_below, is_lot, is_number, is_row, is_sequence, is_within, is_word
from setitback.errors import Refused
from setitback.net import flow_or_cut, least_flow, surpluses

MOST_NODES = 20
MOST_ARCS = 80


def is_arc(value, nodes):
    """Whether any value is an arc between so many nodes."""
    if not is_row(value, 4) or not is_below(value[0], nodes) or not is_below(value[1], nodes):
        return False
    if value[0] == value[1] or not is_number(value[2]) or not is_number(value[3]):
        return False
    return value[2] <= value[3]


def check_arcs(nodes, arcs):
    """Any values as a number of nodes and arcs between them; the arcs, of tuples."""
    if not is_within(nodes, 1, MOST_NODES):
        raise Refused(nodes)
    if not is_sequence(arcs) or len(arcs) > MOST_ARCS or not all([is_arc(arc, nodes) for arc in arcs]):
        raise Refused(arcs)
    return tuple([tuple(arc) for arc in arcs])


def circulation(nodes, arcs):
    """("flow", values) of a circulation or, if there is none, ("cut", lot)."""
    return flow_or_cut(nodes, check_arcs(nodes, arcs))


def least(nodes, arcs):
    """The circulation whose values are the least tuple; None if there is none."""
    return least_flow(nodes, check_arcs(nodes, arcs))


def is_circulation(nodes, arcs, value):
    """Whether any value gives each arc what it may carry, as much coming to each node as going."""
    if not is_row(value, len(arcs)):
        return False
    if not all([is_within(part, arc[2], arc[3]) for part, arc in zip(value, arcs)]):
        return False
    fixed = [(arc[0], arc[1], part, part) for part, arc in zip(value, arcs)]
    return not any(surpluses(nodes, fixed))


def is_cut(nodes, arcs, value):
    """Whether any value is a lot of nodes into which more must come than can go out."""
    if not is_lot(value, nodes):
        return False
    comes = sum([arc[2] for arc in arcs if arc[1] in value and arc[0] not in value])
    goes = sum([arc[3] for arc in arcs if arc[0] in value and arc[1] not in value])
    return comes > goes


def flow_holds(nodes, arcs, value):
    """Whether any value is the flow of a circulation, or a cut."""
    arcs = check_arcs(nodes, arcs)
    if not is_row(value, 2):
        return False
    if is_word(value[0], "flow"):
        return is_circulation(nodes, arcs, value[1])
    return is_word(value[0], "cut") and is_cut(nodes, arcs, value[1])
