"""Worlds: two forms in step, whose situation alone tells all that comes."""

from setitback.bonds import check_bond
from setitback.finite import least_machine
from setitback.machines import run_of, setting_of
from setitback.meaning import case_of, check_situation_of, endless_machine
from setitback.situations import behind
from setitback.tight import check_start


class Bounded:
    """The least machine of a bounded start, asked as the endless ones are."""

    def __init__(self, bond, pair):
        self.machine = least_machine(bond, pair)

    def shown(self, situation):
        """The pair that a situation shows."""
        return self.machine[1][situation]

    def put(self, situation, setting):
        """The situation behind a setting."""
        return behind(self.machine, situation, setting)


class World:
    """Two forms in step: whenever one is set, the other is set so that they fit, and setting back is as nothing."""

    def __init__(self, bond, start):
        self.bond = check_bond(bond)
        self.start = check_start(self.bond, start)
        self.case = case_of(self.bond, self.start)
        if self.case[0] == "bounded":
            self._machine = Bounded(self.bond, self.start)
            self.situation = self._machine.machine[0]
        else:
            self._machine = endless_machine(self.case, self.bond, self.start)
            self.situation = 0

    def tells(self):
        """(The pair that is shown, the situation)."""
        return self._machine.shown(self.situation), self.situation

    def take(self, setting):
        """Take a setting; what the world tells then."""
        self.situation = self._machine.put(self.situation, setting_of(self.bond, setting))
        return self.tells()

    def take_all(self, run):
        """Take the settings of a run, one behind another, all or none; what the world tells then."""
        for setting in run_of(self.bond, run):
            self.situation = self._machine.put(self.situation, setting)
        return self.tells()

    def backs(self, run):
        """The settings that lead back here behind a run, the last one's first; none of them is taken."""
        situation = self.situation
        back = []
        for side, filling in run_of(self.bond, run):
            back.insert(0, (side, self._machine.shown(situation)[side]))
            situation = self._machine.put(situation, (side, filling))
        return tuple(back)

    def go(self, situation):
        """Go to a situation; what the world tells then."""
        self.situation = check_situation_of(self.case, situation)
        return self.tells()

    def twin(self):
        """A new world of this bond and start, in this situation."""
        other = World(self.bond, self.start)
        other.situation = self.situation
        return other
