"""The growing machine: an endless one that loses nothing, of a bond whose greatest quotients come to more than 1."""

from setitback.anyvalue import is_below
from setitback.bonds import check_bond, check_side
from setitback.endless import check_endless, check_number, led_from, put_at
from setitback.errors import NoFilling, Refused
from setitback.lots import is_pair_of, product_of_greatest
from setitback.quotients import power_rounded_up
from setitback.rungs import Rungs, enough_for, greatest_two, rung_at
from setitback.tight import carried_of


def last_at_most(row, limit):
    """The last place of a row that does not fall, its first number at most the limit, whose number is at most it."""
    low, high = 0, len(row)
    while high - low > 1:
        middle = (low + high) // 2
        if row[middle] <= limit:
            low = middle
        else:
            high = middle
    return low


class Growing:
    """Situation 0 shows the start; behind it come the layers of the ladder, one behind another."""

    def __init__(self, bond, start):
        self.bond = check_bond(bond)
        if not is_pair_of(self.bond, start) or product_of_greatest(self.bond) == (1, 1):
            raise Refused(start)
        self.start = tuple(start)
        self.pairs = carried_of(self.bond)
        self.great = enough_for(greatest_two(self.bond))
        # Layers are made when they are first met. By layer: where it begins, and, by side and filling, how many
        # situations ahead of it show the filling; for one layer more than were made.
        self._rungs = Rungs(self.bond, self.pairs, self.start, self.great)
        self._weights = []
        self._begins = [1]
        self._ahead = [[[many] for many in row] for row in self._rungs.came]

    def _make_layer(self):
        weight = self._rungs.next_layer()
        self._weights.append(weight)
        self._begins.append(self._begins[-1] + sum(weight))
        for side in (0, 1):
            for filling in range(self.bond[side]):
                self._ahead[side][filling].append(self._rungs.came[side][filling])

    def _layer_with(self, situation):
        """The layer in which a situation above 0 stands."""
        while self._begins[-1] <= situation:
            self._make_layer()
        return last_at_most(self._begins, situation)

    def _place(self, situation):
        """(The layer, the index of the pair, the number of the copy) of a situation above 0."""
        layer = self._layer_with(situation)
        copy = situation - self._begins[layer]
        at = 0
        while copy >= self._weights[layer][at]:
            copy = copy - self._weights[layer][at]
            at = at + 1
        return layer, at, copy

    def shown(self, situation):
        """The pair that a situation shows."""
        if check_endless(situation) == 0:
            return self.start
        return self.pairs[self._place(situation)[1]]

    def layer(self, situation):
        """The layer in which a situation stands; None for situation 0."""
        if check_endless(situation) == 0:
            return None
        return self._layer_with(situation)

    def rank(self, situation, side):
        """How many lower situations show the same filling on a side."""
        check_endless(situation)
        side = check_side(side)
        if situation == 0:
            return 0
        layer, at, copy = self._place(situation)
        filling = self.pairs[at][side]
        lower = [many for pair, many in zip(self.pairs[:at], self._weights[layer]) if pair[side] == filling]
        return self._ahead[side][filling][layer] + sum(lower) + copy

    def nth(self, side, filling, rank):
        """The situation that shows a filling and has so many lower ones that do."""
        if not is_below(filling, self.bond[check_side(side)]):
            raise NoFilling(filling)
        ahead = self._ahead[side][filling]
        if check_number(rank) < ahead[0]:
            return 0
        while ahead[-1] <= rank:
            self._make_layer()
        layer = last_at_most(ahead, rank)
        situation = self._begins[layer]
        left = rank - ahead[layer]
        weight = self._weights[layer]
        at = 0
        while self.pairs[at][side] != filling or left >= weight[at]:
            left = left - (weight[at] if self.pairs[at][side] == filling else 0)
            situation = situation + weight[at]
            at = at + 1
        return situation + left

    def put(self, situation, setting):
        """The situation behind a setting: the one of the same rank among those that show what is set."""
        return put_at(self, situation, setting)

    def led(self, situation, run):
        """The situation behind a run."""
        return led_from(self, situation, run)

    def weight(self, layer):
        """The weight of a layer, by the carried pairs."""
        layer = check_number(layer)
        while len(self._weights) <= layer:
            self._make_layer()
        return self._weights[layer]

    def within(self, many):
        """(The least number of situations within so many settings, no fewer than are met here)."""
        many = check_number(many)
        row, column = rung_at(greatest_two(self.bond), self.great, many)
        high = 1 if many == 0 else min(self.bond[0] * row, self.bond[1] * column)
        return power_rounded_up(product_of_greatest(self.bond), many // 2), high
