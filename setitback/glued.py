"""Machines of forms bound in a tree, glued edge by edge."""

from setitback.anyvalue import is_below, is_row, is_row_below, is_sequence
from setitback.errors import Refused
from setitback.quotients import least_common
from setitback.trees import barring_of, bond_at_edge, check_row, check_tree, is_fitting
from setitback.weaving import copies, moves_by_place, showing
from setitback.weights import least_balanced_with


def parts_at_edge(tree, at, known, row, size):
    """(The form that an edge adds, by filling of the known form the fillings that it adds, the start's one first).

    Of the latter there are as many as situations show the filling, where there are `size` situations.
    """
    form, later, _ = tree[1][at]
    bond = bond_at_edge(tree, at)
    weight = least_balanced_with(bond, (row[form], row[later]))
    times = size // sum(weight)
    side, added = (0, later) if known == form else (1, form)
    parts = [[] for _ in range(bond[side])]
    for pair in copies(bond[2], [many * times for many in weight]):
        parts[pair[side]].append(pair[1 - side])
    parts[row[known]].remove(row[added])
    parts[row[known]].insert(0, row[added])
    return added, parts


def glue_edge(tree, at, known, row, kinds):
    """Give each situation, the start being the first, its filling of the form that an edge leads to."""
    added, parts = parts_at_edge(tree, at, known, row, len(kinds))
    lots = showing(kinds, known, tree[0][known])
    for lot, fillings in zip(lots, parts):
        for situation, filling in zip(lot, fillings):
            kinds[situation][added] = filling


def glued_kinds(tree, row):
    """By situation the row that it shows; the first one shows the start."""
    sizes, edges = tree
    size = least_common(sizes)
    first = [filling for filling in range(sizes[0]) for _ in range(size // sizes[0])]
    first.remove(row[0])
    kinds = [[filling] + [None] * (len(sizes) - 1) for filling in [row[0]] + first]
    reached = {0: True}
    while len(reached) < len(sizes):
        for at, (form, later, _) in enumerate(edges):
            # An edge with both ends reached is glued already.
            if (form in reached) != (later in reached):
                glue_edge(tree, at, form if form in reached else later, row, kinds)
                reached[form] = True
                reached[later] = True
    return tuple([tuple(kind) for kind in kinds])


def glued(tree, start):
    """A lossless machine (start, kinds, moves) of the fewest situations; Refused(start) where an edge bars it."""
    tree = check_tree(tree)
    row = check_row(tree, start)
    if barring_of(tree, row) is not None:
        raise Refused(start)
    kinds = glued_kinds(tree, row)
    return 0, kinds, moves_by_place(kinds, tree[0])


def sets_back(kinds, moves, situation, form):
    """Whether settings of a form, from a situation, show what is set and are undone by setting back."""
    stood = kinds[situation][form]
    row = moves[situation][form]
    if row[stood] != situation:
        return False
    shows = [kinds[found][form] for found in row]
    return shows == list(range(len(row))) and all([moves[found][form][stood] == situation for found in row])


def are_glued_moves(sizes, kinds, value):
    """Whether any value leads from each situation, by form and filling, as a machine with these kinds must."""
    many = len(kinds)
    if not is_row(value, many) or not all([is_row(rows, len(sizes)) for rows in value]):
        return False
    for rows in value:
        if not all([is_row_below(row, (many,) * size) for row, size in zip(rows, sizes)]):
            return False
    return all([sets_back(kinds, value, situation, form) for situation in range(many) for form in range(len(sizes))])


def is_glued(tree, row, value):
    """Whether any value is a lossless machine from a start, of the fewest situations."""
    if barring_of(tree, row) is not None or not is_row(value, 3):
        return False
    start, kinds, moves = value
    many = least_common(tree[0])
    if not is_row(kinds, many) or not all([is_fitting(tree, kind) for kind in kinds]):
        return False
    if not is_below(start, many) or tuple(kinds[start]) != row:
        return False
    return are_glued_moves(tree[0], kinds, moves)


def glued_holds(tree, start, value):
    """Whether any value is a lossless machine from this start, of the fewest situations."""
    tree = check_tree(tree)
    return is_glued(tree, check_row(tree, start), value)


def is_run(tree, value):
    """Whether any value is a sequence of pairs (form of the tree, filling of it)."""
    if not is_sequence(value) or not all([is_row(setting, 2) for setting in value]):
        return False
    return all([is_below(form, len(tree[0])) and is_below(filling, tree[0][form]) for form, filling in value])


def led_through(tree, start, machine, run):
    """The rows that such a machine shows from the start on, one more than there are settings."""
    tree = check_tree(tree)
    row = check_row(tree, start)
    if not is_glued(tree, row, machine):
        raise Refused(machine)
    if not is_run(tree, run):
        raise Refused(run)
    situation, kinds, moves = machine
    rows = [row]
    for form, filling in run:
        situation = moves[situation][form][filling]
        rows.append(tuple(kinds[situation]))
    return tuple(rows)
