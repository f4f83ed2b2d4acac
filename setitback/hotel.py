"""The hotel: an endless machine that loses nothing, for a start that crosses a tight lot of an even bond."""

from setitback.anyvalue import is_below
from setitback.bonds import check_bond, check_side
from setitback.endless import check_endless, check_number, led_from, put_at
from setitback.errors import NoFilling, Refused
from setitback.lots import is_pair_of
from setitback.tight import is_crossing
from setitback.weaving import copies, showing
from setitback.weights import least_balanced_with


class Hotel:
    """Situation 0 shows the start; behind it come layers that are alike, in which each filling has as many rooms."""

    def __init__(self, bond, start):
        self.bond = check_bond(bond)
        if not is_pair_of(self.bond, start) or not is_crossing(self.bond, tuple(start)):
            raise Refused(start)
        self.start = tuple(start)
        self.kinds = copies(self.bond[2], least_balanced_with(self.bond, None))
        self._rooms = [showing(self.kinds, side, self.bond[side]) for side in (0, 1)]

    def shown(self, situation):
        """The pair that a situation shows."""
        if check_endless(situation) == 0:
            return self.start
        return self.kinds[(situation - 1) % len(self.kinds)]

    def layer(self, situation):
        """The layer in which a situation stands; None for situation 0."""
        if check_endless(situation) == 0:
            return None
        return (situation - 1) // len(self.kinds)

    def rank(self, situation, side):
        """How many lower situations show the same filling on a side."""
        filling = self.shown(situation)[check_side(side)]
        if situation == 0:
            return 0
        layer, room = divmod(situation - 1, len(self.kinds))
        rooms = self._rooms[side][filling]
        ahead = 1 if self.start[side] == filling else 0
        return ahead + layer * len(rooms) + rooms.index(room)

    def nth(self, side, filling, rank):
        """The situation that shows a filling and has so many lower ones that do."""
        if not is_below(filling, self.bond[check_side(side)]):
            raise NoFilling(filling)
        behind_start = check_number(rank) - (1 if self.start[side] == filling else 0)
        if behind_start < 0:
            return 0
        rooms = self._rooms[side][filling]
        layer, place = divmod(behind_start, len(rooms))
        return 1 + layer * len(self.kinds) + rooms[place]

    def put(self, situation, setting):
        """The situation behind a setting: the one of the same rank among those that show what is set."""
        return put_at(self, situation, setting)

    def led(self, situation, run):
        """The situation behind a run."""
        return led_from(self, situation, run)

    def within(self, many):
        """(The least number of situations within so many settings, the most that are met here)."""
        many = check_number(many)
        return many + 1, 1 + many * len(self.kinds)
