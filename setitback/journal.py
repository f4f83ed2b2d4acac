"""Journals, whose octets tell what was taken, notes, whose octets tell a situation alone, and runs made short."""

from setitback.bonds import bond_at, bond_octets, check_bond
from setitback.errors import Broken, Refused
from setitback.forms import run_from, write_run
from setitback.machines import run_of
from setitback.meaning import case_of, check_situation_of
from setitback.octets import check_octets, octet_at
from setitback.tight import check_start
from setitback.world import World

GREATEST_OCTET = 255
MOST_OCTETS = 255


def short(bond, start, run):
    """The run that is left when settings that the next one of their side makes needless are dropped."""
    world = World(bond, start)
    left = []
    ahead = []
    for side, filling in run_of(world.bond, run):
        if left and left[-1][0] == side:
            left.pop()
            world.go(ahead.pop())
        pair, situation = world.tells()
        if pair[side] != filling:
            left.append((side, filling))
            ahead.append(situation)
            world.take((side, filling))
    return tuple(left)


def head_octets(bond, pair):
    """The octets of a bond and a start, both looked at."""
    return bond_octets(bond) + pair


def read_head(octets):
    """(The bond, the start, the place behind them) with which octets begin; Broken if they do not."""
    bond, at = bond_at(octets, 0)
    s = octet_at(octets, at, 0, bond[0] - 1)
    t = octet_at(octets, at + 1, 0, bond[1] - 1)
    if (s, t) not in bond[2]:
        raise Broken(at + 1)
    return bond, (s, t), at + 2


class Journal:
    """A world whose settings are taken through here alone, and the octets that tell all of them."""

    def __init__(self, bond, start):
        self.world = World(bond, start)
        self.octets = head_octets(self.world.bond, self.world.start)

    def take(self, setting):
        """Take a setting and write it; what the world tells then."""
        tells = self.world.take(setting)
        self.octets = self.octets + write_run([setting])
        return tells


def read_journal(octets):
    """(The bond, the start, the settings that are whole, the place behind them); Broken if this is no journal."""
    octets = check_octets(octets)
    bond, pair, at = read_head(octets)
    run, behind = run_from(octets, at, bond[:2])
    return bond, pair, run, behind


def opened(octets):
    """The journal that took the settings of these octets that are whole."""
    bond, pair, run, _ = read_journal(octets)
    journal = Journal(bond, pair)
    for setting in run:
        journal.take(setting)
    return journal


def situation_octets(situation):
    """The octets of a situation, by powers of 256, the greatest first; 0 has none."""
    octets = []
    while situation > 0:
        octets.insert(0, situation & GREATEST_OCTET)
        situation = situation >> 8
    return tuple(octets)


def note(bond, start, situation):
    """The octets that tell a situation of the world of a bond and a start."""
    bond = check_bond(bond)
    pair = check_start(bond, start)
    octets = situation_octets(check_situation_of(case_of(bond, pair), situation))
    if len(octets) > MOST_OCTETS:
        raise Refused(situation)
    return head_octets(bond, pair) + (len(octets),) + octets


def room_in(case):
    """(How many octets a situation of this case takes at most, the greatest one that can be its first)."""
    if case[0] != "bounded":
        return MOST_OCTETS, GREATEST_OCTET
    # The least common multiple of two sizes is less than 256: one octet tells all, and none if 0 is the only one.
    return min(1, case[1] - 1), case[1] - 1


def from_note(octets):
    """A world in the situation that a note tells; Broken if this is no note."""
    octets = check_octets(octets)
    bond, pair, at = read_head(octets)
    world = World(bond, pair)
    most, first = room_in(world.case)
    many = octet_at(octets, at, 0, most)
    situation = 0
    for place in range(many):
        low, high = (1, first) if place == 0 else (0, GREATEST_OCTET)
        situation = 256 * situation + octet_at(octets, at + 1 + place, low, high)
    if len(octets) > at + 1 + many:
        raise Broken(at + 1 + many)
    world.situation = situation
    return world
