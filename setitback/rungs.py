"""The rungs of the ladder of a bond that was looked at, and the layers made between them."""

from math import isqrt

from setitback.carrying import least_between
from setitback.lots import greatest_of
from setitback.quotients import rounded_up

# With such a rise at first, rows and columns rise for ever by enough for all layers.
LEAST_RISE = 252


def next_root(top, bottom):
    """The integer from 1 on whose square is next to a fraction, the lesser one if two are."""
    root = max(1, isqrt(top // bottom))
    below = top - bottom * root * root
    above = bottom * (root + 1) * (root + 1) - top
    return root + 1 if above < below else root


def greatest_two(bond):
    """(The greatest quotient of side 0, that of side 1)."""
    return greatest_of(bond, 0)[0], greatest_of(bond, 1)[0]


def first_rung(quotients, great):
    """(The row of this greatness, the column that goes with it)."""
    p, q = quotients
    return great, next_root(great * great * p[0] * q[1], p[1] * q[0])


def next_rung(quotients, rung):
    """(The next row, the next column)."""
    p, q = quotients
    return rounded_up(q, rung[1]) + 1, rounded_up(p, rung[0]) + 1


def enough_for(quotients):
    """The least power of two, from 2 on, as which the first row and column rise by 252 each."""
    great = 2
    while True:
        first = first_rung(quotients, great)
        above = next_rung(quotients, first)
        if min(above[0] - first[0], above[1] - first[1]) >= LEAST_RISE:
            return great
        great = 2 * great


def rung_at(quotients, great, many):
    """(a_many, b_many)."""
    rung = first_rung(quotients, great)
    for _ in range(many):
        rung = next_rung(quotients, rung)
    return rung


class Rungs:
    """The layers of a ladder, made one behind another; what has come into each row and column so far."""

    def __init__(self, bond, pairs, start, great):
        self._bond = (bond[0], bond[1], pairs)
        self._quotients = greatest_two(bond)
        self._rung = first_rung(self._quotients, great)
        self.came = [[1 if start[side] == filling else 0 for filling in range(bond[side])] for side in (0, 1)]

    def next_layer(self):
        """The weight of the next layer; None if it cannot be made."""
        above = next_rung(self._quotients, self._rung)
        lows = [[max(0, self._rung[side] - came) for came in self.came[side]] for side in (0, 1)]
        highs = [[above[side] - came for came in self.came[side]] for side in (0, 1)]
        if any([low > high for side in (0, 1) for low, high in zip(lows[side], highs[side])]):
            return None
        pairs = self._bond[2]
        weight = least_between(self._bond, [0] * len(pairs), lows, highs)
        if weight is not None:
            self._rung = above
            for pair, many in zip(pairs, weight):
                for side in (0, 1):
                    self.came[side][pair[side]] = self.came[side][pair[side]] + many
        return weight
