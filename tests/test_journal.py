"""Promises 74 to 76: runs made short, journals and notes, cut and bent at every octet."""

import time
import unittest
from functools import lru_cache
from random import Random

from case_words import CORNER, DESK, SQUARE, STAR, case_by_words, some_cases
from helpers import EVEN, Checks, any_values, full, is_tuples, listed, refuses, same, settings
from test_bonds import NO_BONDS
from setitback.bonds import bond_octets
from setitback.errors import BadBond, BadOctets, Broken, Refused
from setitback.forms import write_run
from setitback.journal import Journal, from_note, note, opened, read_journal, short
from setitback.world import World

NO_OCTETS = [(None, -1), (5, -1), ("12", -1), (True, -1), (Refused(0), -1), ((256,), 0), ((1, 1, 1, -1), 3), ((1, True), 1), ([1, None], 1),
             ((1, 1, 1, 0, 0, 0, "0"), 6), ((9, 300), 1), ((1, (1,)), 1), ((10 ** 30,), 0)]


def some_run(random, bond, many):
    return tuple(random.choices(settings(bond), k=many))


def short_by_words(bond, start, run):
    """Each setting gone through, the world made anew from the start for what is kept."""
    left = []
    for setting in run:
        if left and left[-1][0] == setting[0]:
            left.pop()
        world = World(bond, start)
        world.take_all(left)
        if world.tells()[0][setting[0]] != setting[1]:
            left.append(setting)
    return tuple(left)


class Short(Checks, unittest.TestCase):
    def test_short(self):
        random = Random(1)
        for bond, start in some_cases(25):
            for many in (0, 1, 2, 3, 6, 20):
                run = some_run(random, bond, many)
                found = short(bond, start, run)
                self.told(short_by_words(bond, start, run), found)
                self.told(found, short(listed(bond), list(start), listed(run)))
                world, other = World(bond, start), World(bond, start)
                self.told(world.take_all(run), other.take_all(found))
                # Its sides go to and fro, none of its settings sets what stands, and made short it is itself.
                self.assertTrue(all(found[at - 1][0] != found[at][0] for at in range(1, len(found))))
                world = World(bond, start)
                for side, filling in found:
                    self.assertNotEqual(world.tells()[0][side], filling)
                    world.take((side, filling))
                self.told(found, short(bond, start, found))

    def test_known_ones(self):
        self.told((), short(CORNER, (0, 1), ((0, 1), (0, 0), (1, 1))))
        self.told(((0, 1), (1, 0)), short(bond=CORNER, start=(0, 1), run=((0, 1), (1, 0), (1, 1), (1, 0))))
        self.told((), short(full(1, 1), (0, 0), ((0, 0), (1, 0)) * 30))
        # What was dropped may let what stands ahead of it be dropped by the next one.
        self.told((), short(CORNER, (0, 1), ((0, 1), (1, 0), (1, 1), (0, 0))))
        self.told(((0, 1),), short(CORNER, (0, 1), ((1, 0), (1, 1), (0, 0), (0, 1))))

    def test_wrong_values(self):
        for value, at in NO_BONDS:
            self.raised(BadBond, "at", at, short, value, None, None)

        def right(value):
            return any(same(value, pair) or same(value, list(pair)) for pair in EVEN[2])
        refuses(self, Refused, "value", short, (EVEN,), right, (None,))
        refuses(self, Refused, "value", short, (EVEN, (1, 0)), lambda value: isinstance(value, (list, tuple)))
        for value in ((2, 0), (0, 2), (True, 0), (0, False), (0,), None, (0, 0, 0)):
            self.raised(Refused, "value", value, short, EVEN, (1, 0), [(0, 1), value, None])


class Journals(Checks, unittest.TestCase):
    def test_octets_and_takes(self):
        random = Random(2)
        for bond, start in some_cases(25):
            journal, world = Journal(listed(bond), list(start)), World(bond, start)
            octets = bond_octets(bond) + start
            self.told(octets, journal.octets)
            self.told(world.tells(), journal.world.tells())
            self.told((bond, start, world.case), (journal.world.bond, journal.world.start, journal.world.case))
            for setting in some_run(random, bond, 12):
                self.told(world.take(setting), journal.take(random.choice((tuple, list))(setting)))
                octets += setting
                self.told(octets, journal.octets)
                self.told(world.tells(), journal.world.tells())

    def test_read_and_opened(self):
        random = Random(3)
        for bond, start in some_cases(20):
            journal = Journal(bond, start)
            run = some_run(random, bond, random.randrange(9))
            for setting in run:
                journal.take(setting)
            octets = journal.octets
            self.told((bond, start, run, len(octets)), read_journal(octets))
            self.told((bond, start, run, len(octets)), read_journal(list(octets)))
            again = opened(list(octets))
            self.told(octets, again.octets)
            self.told(journal.world.tells(), again.world.tells())
            setting = random.choice(settings(bond))
            self.told(journal.take(setting), again.take(setting))
            self.told(journal.octets, again.octets)

    def test_no_journals(self):
        for value, at in NO_BONDS:
            self.raised(BadBond, "at", at, Journal, value, None)

        def right(value):
            return any(same(value, pair) or same(value, list(pair)) for pair in EVEN[2])
        refuses(self, Refused, "value", Journal, (EVEN,), right)

    def test_no_settings_change_nothing(self):
        for bond, start in ((SQUARE, (1, 1)), (CORNER, (0, 1)), (DESK, (0, 0))):
            journal = Journal(bond, start)
            journal.take((0, 1))
            octets, stood = journal.octets, journal.world.tells()

            def right(value):
                return any(same(value, setting) or same(value, list(setting)) for setting in settings(bond))
            refuses(self, Refused, "value", journal.take, (), right)
            for value in ((2, 0), (0, bond[0]), (1, 2), (True, 0), (0, False), (0,), (0, 0, 0)):
                self.raised(Refused, "value", value, journal.take, value)
            self.told(octets, journal.octets)
            self.told(stood, journal.world.tells())

    def test_names(self):
        journal = Journal(bond=CORNER, start=(0, 1))
        self.told(((1, 1), 2), journal.take(setting=(0, 1)))
        self.told((CORNER, (0, 1), ((0, 1),), 8), read_journal(octets=journal.octets))
        self.told(((1, 1), 2), opened(octets=journal.octets).world.tells())


def head_lives(octets):
    """Whether octets can be gone on with to a bond and a start, or are these and more: (whether, the bond, the rest)."""
    if not octets:
        return True, None, ()
    m, rest = octets[0], octets[1:]
    if not 1 <= m <= 6:
        return False, None, ()
    if rest and not 1 <= rest[0] <= 6:
        return False, None, ()
    if len(rest) < 2:
        return True, None, ()
    n, rows = rest[0], rest[1:1 + m]
    if not all(1 <= row < 2 ** n for row in rows):
        return False, None, ()
    if len(rows) < m:
        return True, None, ()
    if not all(any(row >> t & 1 for row in rows) for t in range(n)):
        return False, None, ()
    bond = (m, n, tuple((s, t) for s, row in enumerate(rows) for t in range(n) if row >> t & 1))
    start = rest[1 + m:3 + m]
    if start and start[0] >= m or len(start) == 2 and start not in bond[2]:
        return False, None, ()
    return True, (bond, start) if len(start) == 2 else None, rest[3 + m:]


def journal_lives(octets):
    """Whether octets can be gone on with to a journal, and whether bond and start are whole."""
    lives, head, rest = head_lives(octets)
    if not lives or head is None:
        return lives, False
    for at in range(0, len(rest), 2):
        if rest[at] > 1 or rest[at + 1:at + 2] and rest[at + 1] >= head[0][rest[at]]:
            return False, True
    return True, True


def note_lives(octets):
    """Whether octets can be gone on with to a note, or are one, and whether they are one."""
    lives, head, rest = head_lives(octets)
    if not lives or head is None or not rest:
        return lives, False
    case = case_by_words(*head)
    many, rest = rest[0], rest[1:]
    if case[0] == "bounded" and many > (1 if case[1] > 1 else 0) or len(rest) > many:
        return False, False
    if rest and (rest[0] == 0 or case[0] == "bounded" and rest[0] >= case[1]):
        return False, False
    return True, len(rest) == many


def broken_at(octets, lives):
    """The place that Broken tells of octets; None if they are whole."""
    for at in range(len(octets)):
        if not lives(octets[:at + 1])[0]:
            return at
    return None if lives(octets)[1] else len(octets)


@lru_cache(None)
def written():
    """(Octets of a journal of some settings, octets of a note), of bonds of all cases."""
    random, found = Random(4), []
    for bond, start in some_cases(14):
        journal = Journal(bond, start)
        for setting in some_run(random, bond, random.randrange(1, 4)):
            journal.take(setting)
        case = case_by_words(bond, start)
        situation = random.choice((0, case[1] - 1, random.randrange(case[1]))) if case[0] == "bounded" else random.choice(
            (0, 1, 255, 256, random.randrange(10 ** 5), 10 ** 12))
        found.append((journal.octets, note(bond, start, situation)))
    return tuple(found)


def bent(octets):
    """The octets with each one exchanged for others, some that come near."""
    random = Random(len(octets))
    for at, octet in enumerate(octets):
        for other in {0, 1, 2, 6, 7, 63, 64, 255, octet - 1, octet + 1, random.randrange(256)} - {octet, -1, 256}:
            yield (*octets[:at], other, *octets[at + 1:])


class CutAndBent(Checks, unittest.TestCase):
    def check_journal(self, octets):
        place = broken_at(octets, journal_lives)
        if place is not None:
            self.raised(Broken, "at", place, read_journal, octets)
            self.raised(Broken, "at", place, opened, list(octets))
            return False
        bond, start, run, behind = read_journal(octets)
        head = 4 + bond[0]
        self.told(head + (len(octets) - head) // 2 * 2, behind)
        self.told(octets[:behind], bond_octets(bond) + start + write_run(run))
        journal, world = opened(octets), World(bond, start)
        self.told(octets[:behind], journal.octets)
        self.told(world.take_all(run), journal.world.tells())
        return True

    def check_note(self, octets):
        place = broken_at(octets, note_lives)
        if place is not None:
            self.raised(Broken, "at", place, from_note, octets)
            return False
        world = from_note(octets)
        self.told(octets, note(world.bond, world.start, world.situation))
        self.told(world.situation, from_note(list(octets)).situation)
        return True

    def test_cut_at_every_number_of_octets(self):
        for journal, noted in written():
            head = 4 + journal[0]
            for many in range(len(journal) + 1):
                self.assertEqual(self.check_journal(journal[:many]), many >= head)
                if many < head:
                    self.raised(Broken, "at", many, read_journal, journal[:many])
            for many in range(len(noted) + 1):
                self.assertEqual(self.check_note(noted[:many]), many == len(noted))
                if many < len(noted):
                    self.raised(Broken, "at", many, from_note, noted[:many])

    def test_bent_at_every_octet(self):
        seen = {}
        for journal, noted in written():
            for octets in bent(journal):
                held = self.check_journal(octets)
                seen["journal", held] = seen.get(("journal", held), 0) + 1
            for octets in bent(noted):
                held = self.check_note(octets)
                seen["note", held] = seen.get(("note", held), 0) + 1
        self.assertEqual(len(seen), 4)
        self.assertGreater(min(seen.values()), 100)

    def test_an_octet_more_at_the_end(self):
        for journal, noted in written():
            for octet in (0, 1, 2, 5, 6, 255):
                self.assertEqual(self.check_journal((*journal, octet)), octet < 2)
                # A note is whole: nothing can stand behind it.
                self.assertFalse(self.check_note((*noted, octet)))
                self.raised(Broken, "at", len(noted), from_note, (*noted, octet))
                self.raised(Broken, "at", len(noted), from_note, (*noted, octet, 0))

    def test_any_octets(self):
        random = Random(5)
        for _ in range(1500):
            octets = tuple(random.choice((0, 1, 2, 3, 3, 4, 7, 15)) for _ in range(random.randrange(12)))
            self.check_journal(octets)
            self.check_note(octets)
        self.raised(Broken, "at", 0, read_journal, ())
        self.raised(Broken, "at", 0, from_note, ())

    def test_settings_of_this_bond(self):
        head = (2, 3, 3, 6, 0, 1)
        self.told(((0, 1), (1, 2)), read_journal((*head, 0, 1, 1, 2))[2])
        self.raised(Broken, "at", 7, read_journal, (*head, 0, 2))
        self.raised(Broken, "at", 9, opened, (*head, 0, 1, 1, 3, 7))
        self.raised(Broken, "at", 8, read_journal, (*head, 0, 1, 2))
        # The start must fit: 0 does not fit 2.
        self.raised(Broken, "at", 5, read_journal, (2, 3, 3, 6, 0, 2))
        self.raised(Broken, "at", 4, read_journal, (2, 3, 3, 6, 2))
        # The last row must make up for what is missing.
        self.raised(Broken, "at", 3, read_journal, (2, 3, 3, 1))
        self.raised(Broken, "at", 3, read_journal, (2, 3, 3))

    def test_no_octets(self):
        for value, at in NO_OCTETS:
            for call in (read_journal, opened, from_note):
                self.raised(BadOctets, "at", at, call, value)


class Notes(Checks, unittest.TestCase):
    def test_note(self):
        random = Random(6)
        for bond, start in some_cases(20):
            case = case_by_words(bond, start)
            tops = range(case[1]) if case[0] == "bounded" else [0, 1, 255, 256, 65535, 65536, 10 ** 12, random.randrange(10 ** 12)]
            for situation in tops:
                size = (situation.bit_length() + 7) // 8
                expected = bond_octets(bond) + start + (size, *situation.to_bytes(size, "big"))
                self.told(expected, note(bond, start, situation))
                self.told(expected, note(listed(bond), list(start), situation))
                world = from_note(expected)
                self.told((bond, start, case, situation), (world.bond, world.start, world.case, world.situation))

    def test_goes_on_as_the_world_does(self):
        random = Random(7)
        for bond, start in some_cases(20):
            world = World(bond, start)
            world.take_all(some_run(random, bond, 15))
            other = from_note(note(bond, start, world.situation))
            self.told(world.tells(), other.tells())
            for setting in some_run(random, bond, 30):
                self.told(world.take(setting), other.take(setting))

    def test_great_situations(self):
        for situation in (10 ** 40, 256 ** 255 - 1, 256 ** 254, 256 ** 100 + 7):
            for bond, start in ((CORNER, (0, 1)), (DESK, (0, 0))):
                octets = note(bond, start, situation)
                self.assertEqual(from_note(octets).situation, situation)
                self.assertEqual(octets[4 + bond[0]], (situation.bit_length() + 7) // 8)
        self.told(((1, 1), 10 ** 40), from_note(note(CORNER, (0, 1), 10 ** 40)).tells())
        for bond, start in ((CORNER, (0, 1)), (DESK, (0, 0))):
            for situation in (256 ** 255, 10 ** 700):
                self.raised(Refused, "value", situation, note, bond, start, situation)

    def test_known_ones(self):
        self.told((2, 2, 3, 2, 0, 1, 1, 3), note(bond=CORNER, start=(0, 1), situation=3))
        self.told((1, 1, 1, 0, 0, 0), note(full(1, 1), (0, 0), 0))
        self.told(((0, 0), 0), from_note(octets=(1, 1, 1, 0, 0, 0)).tells())
        self.raised(Broken, "at", 5, from_note, (1, 1, 1, 0, 0, 1))
        self.raised(Broken, "at", 7, from_note, (2, 2, 1, 2, 0, 0, 1, 2))
        self.raised(Broken, "at", 7, from_note, (2, 2, 1, 2, 0, 0, 1, 0))
        self.raised(Broken, "at", 6, from_note, (2, 2, 1, 2, 0, 0, 2, 0, 1))
        self.told(((1, 1), 1), from_note((2, 2, 1, 2, 0, 0, 1, 1)).tells())

    def test_wrong_values(self):
        for value, at in NO_BONDS:
            self.raised(BadBond, "at", at, note, value, None, None)

        def right(value):
            return any(same(value, pair) or same(value, list(pair)) for pair in EVEN[2])
        refuses(self, Refused, "value", note, (EVEN,), right, (None,))
        for bond, start, limit in ((SQUARE, (1, 1), 2), (CORNER, (0, 1), 10 ** 31), (DESK, (0, 0), 10 ** 31)):
            refuses(self, Refused, "value", note, (bond, start), lambda value: type(value) is int and 0 <= value < limit)
            for value in (-1, True, False, None, (0,)):
                self.raised(Refused, "value", value, note, bond, start, value)
        self.raised(Refused, "value", 2, note, SQUARE, (1, 1), 2)

    def test_names_lists_and_times(self):
        begun = time.perf_counter()
        random = Random(8)
        for bond, start in ((STAR, (0, 0)), (CORNER, (0, 1)), (DESK, (0, 0)), (full(6, 5), (0, 0))):
            run = some_run(random, bond, 60)
            journal = Journal(bond, start)
            for setting in run:
                journal.take(setting)
            self.told(journal.world.tells(), opened(journal.octets).world.tells())
            long = bond_octets(bond) + start + write_run(some_run(random, bond, 190))
            self.assertEqual(read_journal(long[:400])[3], len(long[:400]))
            short(bond, start, run)
            self.takes_lists(short, bond, start, run)
            self.takes_lists(read_journal, journal.octets)
            self.takes_lists(note, bond, start, 3)
        self.assertLess(time.perf_counter() - begun, 10)
        self.assertTrue(is_tuples(read_journal(list(Journal(CORNER, (0, 1)).octets))))
        self.assertGreater(len(any_values()), 40)


if __name__ == "__main__":
    unittest.main()
