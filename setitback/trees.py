"""Forms bound in a tree: what fits, and how few situations a lossless machine takes."""

from setitback.anyvalue import are_within, is_below, is_row, is_row_below
from setitback.bonds import check_bond
from setitback.errors import BadBond, BadTree, Refused
from setitback.quotients import least_common
from setitback.tight import is_bounded

FEWEST_FORMS = 2
MOST_FORMS = 4
MOST_OF_A_FORM = 4


def are_sizes(value):
    """Whether any value tells how many fillings each of some forms has."""
    return are_within(value, 1, MOST_OF_A_FORM) and FEWEST_FORMS <= len(value) <= MOST_FORMS


def edge_with(sizes, value):
    """Any value as an edge between forms of these sizes, of tuples; None if it is none."""
    if not is_row(value, 3) or not is_row_below(value[:2], (len(sizes), len(sizes))) or value[0] >= value[1]:
        return None
    form, later, pairs = value
    try:
        return form, later, check_bond((sizes[form], sizes[later], pairs))[2]
    except BadBond:
        return None


def check_edges(sizes, value):
    """A sequence as ascending edges between forms, of tuples; BadTree with the first that is none."""
    edges = []
    for at, passed in enumerate(value):
        edge = edge_with(sizes, passed)
        if edge is None or (at > 0 and edge[:2] <= edges[at - 1][:2]):
            raise BadTree(2 + at)
        edges.append(edge)
    return tuple(edges)


def leads_everywhere(many, edges):
    """Whether edges lead from form 0 to each of so many forms."""
    reached = {0: True}
    for _ in edges:
        for form, later, _ in edges:
            if form in reached or later in reached:
                reached[form] = True
                reached[later] = True
    return len(reached) == many


def check_tree(value):
    """Any value as a tree, of tuples; BadTree if it is none."""
    if not is_row(value, 2):
        raise BadTree(-1)
    sizes, edges = value
    if not are_sizes(sizes):
        raise BadTree(0)
    if not is_row(edges, len(sizes) - 1):
        raise BadTree(1)
    edges = check_edges(sizes, edges)
    if not leads_everywhere(len(sizes), edges):
        raise BadTree(2 + len(edges))
    return tuple(sizes), edges


def bond_at_edge(tree, at):
    """The bond of an edge, both looked at."""
    sizes, edges = tree
    form, later, pairs = edges[at]
    return sizes[form], sizes[later], pairs


def edge_bond(tree, at):
    """The bond of an edge."""
    tree = check_tree(tree)
    if not is_below(at, len(tree[1])):
        raise Refused(at)
    return bond_at_edge(tree, at)


def is_fitting(tree, value):
    """Whether any value is a row of one filling of each form in which each edge's two fit."""
    if not is_row_below(value, tree[0]):
        return False
    return all([(value[form], value[later]) in pairs for form, later, pairs in tree[1]])


def fitting(tree):
    """Ascending all rows of one filling of each form in which each edge's two fit."""
    tree = check_tree(tree)
    rows = [()]
    for many in tree[0]:
        rows = [row + (filling,) for row in rows for filling in range(many)]
    return tuple([row for row in rows if is_fitting(tree, row)])


def check_row(tree, start):
    """Any value as a start of a tree that was looked at, a tuple; Refused if it is none."""
    if not is_fitting(tree, start):
        raise Refused(start)
    return tuple(start)


def barring_of(tree, row):
    """The index of the first edge that is not bounded at its part of a start; None if there is none."""
    for at, (form, later, _) in enumerate(tree[1]):
        if not is_bounded(bond_at_edge(tree, at), (row[form], row[later])):
            return at
    return None


def barring(tree, start):
    """The index of the first edge whose bond is not even, or whose part of the start crosses a tight lot, or None."""
    tree = check_tree(tree)
    return barring_of(tree, check_row(tree, start))


def fewest_situations(tree, start):
    """The least number of situations of a finite lossless machine from a start; None if there is none."""
    tree = check_tree(tree)
    if barring_of(tree, check_row(tree, start)) is not None:
        return None
    return least_common(tree[0])
