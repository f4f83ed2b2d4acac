"""Weights of bonds that were looked at already, as flows from side 0 through the pairs to side 1."""

from setitback.net import least_flow


def least_between(bond, lows, low_shares, high_shares):
    """The least weight with each number from its low on; None if there is none.

    The share of each filling lies from its low to its high one, (by filling of side 0, by filling of side 1), no low
    one being above the high one.
    """
    m, n, pairs = bond
    hub = m + n
    arcs = [(s, m + t, low, max(low, high_shares[0][s])) for (s, t), low in zip(pairs, lows)]
    arcs = arcs + [(hub, s, low_shares[0][s], high_shares[0][s]) for s in range(m)]
    arcs = arcs + [(m + t, hub, low_shares[1][t], high_shares[1][t]) for t in range(n)]
    # The pairs come first, so that the least tuple has the least weight.
    values = least_flow(hub + 1, arcs)
    return None if values is None else values[:len(pairs)]


def least_weight(bond, lows, low_shares, high_shares):
    """The least weight, likewise, where all shares of a side lie from its low to its high one."""
    low_rows = [[low_shares[side]] * bond[side] for side in (0, 1)]
    return least_between(bond, lows, low_rows, [[high_shares[side]] * bond[side] for side in (0, 1)])


def shares_by_form(sizes, rows, weight):
    """By form and filling how much a weight gives the rows with this filling, together."""
    shares = [[0] * many for many in sizes]
    for row, number in zip(rows, weight):
        for form, filling in enumerate(row):
            shares[form][filling] = shares[form][filling] + number
    return tuple([tuple(part) for part in shares])


def shares_of(bond, weight):
    """(The shares of side 0, those of side 1)."""
    return shares_by_form(bond[:2], bond[2], weight)


def are_alike_shares(shares):
    """Whether all shares of a side are alike and above 0."""
    return shares[0] > 0 and all([share == shares[0] for share in shares])
