"""Promises 78 and 79: desks of lines, what they do and what they say."""

import re
import time
import unittest
from functools import lru_cache
from random import Random

from case_words import CORNER, DESK, STAR, case_by_words, some_cases
from helpers import VIEW, Checks, any_values, full, settings, some_machine
from lossless_words import classes_by_words, kept_by_words, loss_by_words, lossless_machines, mixed_machines
from test_journal import short_by_words
from test_machines import shown_bond
from test_sheets import SHEET, TEXT, some_words, text_by_words
from setitback.bonds import bond_octets
from setitback.desk import Desk
from setitback.errors import BadText, Broken
from setitback.finite import least_machine
from setitback.journal import read_journal
from setitback.meaning import bits, paper, within
from setitback.sheets import read_sheet
from setitback.weights import anywhere
from setitback.world import World

NUMBER, WORD = r"(0|[1-9][0-9]{0,2})", r"([a-z][a-z0-9]{0,11})"


def has_form(line, bond):
    """Whether a value is a line of some form, by regular expressions."""
    if not isinstance(line, str):
        return False
    group = rf"( {WORD} {WORD}( {NUMBER}){{{bond[0] + bond[1]}}})"
    return re.fullmatch(rf"(show|back|short|loose|kept|case|weight|alpha|least|set {WORD}|(cut|within|bits) {NUMBER}|judge {NUMBER}{group}+)", line) is not None


class DeskByWords:
    """What a desk does and says, by a world and the octets and settings that were told."""

    def __init__(self, sheet):
        self.bond, self.start, *self.words = sheet
        self.octets = bond_octets(self.bond) + self.start
        self.head = len(self.octets)
        self.world, self.stack, self.run = World(self.bond, self.start), [], []

    def show(self):
        return " ".join(self.words[side][filling] for side, filling in enumerate(self.world.tells()[0]))

    def said(self, run):
        return " ".join(self.words[side][filling] for side, filling in run) or "."

    def take(self, setting):
        self.world.take(setting)
        self.run.append(setting)
        self.octets += setting

    def setting(self, word):
        return next(((side, words.index(word)) for side, words in enumerate(self.words) if word in words), None)

    def set(self, word):
        setting = self.setting(word)
        if setting is None:
            return "refused"
        self.stack.append((setting[0], self.world.tells()[0][setting[0]]))
        self.take(setting)
        return self.show()

    def back(self):
        if not self.stack:
            return "refused"
        self.take(self.stack.pop())
        return self.show()

    def cut(self, many):
        if int(many) < self.head:
            return "refused"
        self.octets = self.octets[:self.head + (min(int(many), len(self.octets)) - self.head) // 2 * 2]
        self.run = self.run[:(len(self.octets) - self.head) // 2]
        self.stack, self.world = [], World(self.bond, self.start)
        self.world.take_all(self.run)
        return self.show()

    def short(self):
        return self.said(short_by_words(self.bond, self.start, self.run))

    def loose(self):
        return str(len(self.octets))

    def kept(self):
        return str(self.world.situation)

    def case(self):
        word, *told = case_by_words(self.bond, self.start)
        if word == "bounded":
            return f"bounded {told[0]}"
        if word == "steps":
            return "steps " + self.said([(0, filling) for filling in told[0]])
        lots = [(0, filling) for filling in told[1]] + [(1, filling) for filling in told[2]]
        return f"grows {told[0][0]}/{told[0][1]} " + self.said(lots)

    def within(self, many):
        return "{} {}".format(*within(self.bond, self.start, int(many)))

    def bits(self, many):
        return str(bits(self.bond, self.start, int(many)))

    def weight(self):
        found = paper(self.bond, self.start)
        return "." if found[0] == "grows" else " ".join(map(str, found[1]))

    def alpha(self):
        return str(anywhere(self.bond) or "none")

    def least(self):
        machine = least_machine(self.bond, self.start)
        return "none" if machine is None else judged_line(self, machine)[6:]

    def say(self, line):
        word, *rest = line.split(" ")
        return getattr(self, word)(*rest)


def judged_line(words, machine):
    """A machine as `judge` is told it."""
    parts = [f"judge {machine[0]}"]
    for pair, rows in zip(*machine[1:]):
        parts.append(" ".join([words.words[0][pair[0]], words.words[1][pair[1]], *map(str, rows[0] + rows[1])]))
    return " ".join(parts)


@lru_cache(None)
def some_sheets():
    random, found = Random(90), [SHEET]
    for bond, start in some_cases(8) + ((STAR, (0, 0)), (full(1, 1), (0, 0)), (VIEW, (0, 1))):
        words = some_words(random, bond[0] + bond[1])
        found.append((bond, start, words[:bond[0]], words[bond[0]:]))
    return tuple(found)


def some_line(random, sheet):
    words = sheet[2] + sheet[3]
    choice = random.randrange(20)
    if choice < 9:
        return "set " + random.choice(words)
    if choice < 13:
        return "back"
    if choice == 13 and random.random() < 0.5:
        return f"cut {random.randrange(random.choice((4, 20, 60, 1000)))}"
    if choice == 14:
        return random.choice(("within ", "bits ")) + str(random.choice((0, 1, 2, 9, 30, 200)))
    if choice == 15:
        return "set " + random.choice(("nobody", "x1x2x3", "set", "a" * 12))
    return random.choice(("show", "short", "loose", "kept", "case", "weight", "alpha", "least"))


class Desks(Checks, unittest.TestCase):
    def test_told_lines_one_behind_another(self):
        random, seen = Random(91), {}
        for sheet in some_sheets():
            for _ in range(3):
                desk, words = Desk(text_by_words(sheet)), DeskByWords(sheet)
                for _ in range(45):
                    line = some_line(random, sheet)
                    expected = words.say(line)
                    self.told(expected, desk.say(line))
                    key = line.split(" ")[0], expected == "refused"
                    seen[key] = seen.get(key, 0) + 1
                for line in ("show", "kept", "loose", "short"):
                    self.told(words.say(line), desk.say(line))
        self.assertTrue(all((word, True) in seen and (word, False) in seen for word in ("set", "back", "cut")))
        self.assertEqual(len(seen), 16)

    def test_back_to_where_it_was(self):
        random = Random(92)
        for sheet in some_sheets():
            desk = Desk(text_by_words(sheet))
            told = []
            for _ in range(12):
                told.append((desk.say("kept"), desk.say("show")))
                desk.say("set " + random.choice(sheet[2] + sheet[3]))
            while told:
                kept, shown = told.pop()
                self.told(shown, desk.say("back"))
                self.told(kept, desk.say("kept"))
            self.told("refused", desk.say("back"))
            self.told(sheet[2][sheet[1][0]] + " " + sheet[3][sheet[1][1]], desk.say("show"))
            # All of it is in the journal.
            self.told(str(4 + sheet[0][0] + 48), desk.say("loose"))
            self.told(".", desk.say("short"))

    def test_back_behind_cut(self):
        desk = Desk(TEXT)
        self.assertEqual([desk.say(line) for line in ("set on", "set low", "cut 8", "back", "short", "set on", "back", "back")],
                         ["on high", "off low", "on high", "refused", "on", "on high", "on high", "refused"])
        # All octets and more: a cut it is none the less.
        desk = Desk(TEXT)
        self.assertEqual([desk.say(line) for line in ("set on", "loose", "cut 999", "loose", "kept", "back", "cut 6", "show", "loose")],
                         ["on high", "8", "on high", "8", "2", "refused", "off high", "off high", "6"])
        # Cut within a setting, just behind one, just behind the start, and ahead of it.
        for many, shown, loose in ((9, "on high", "8"), (10, "off low", "10"), (11, "off low", "10"), (6, "off high", "6"), (7, "off high", "6")):
            desk = Desk(TEXT)
            desk.say("set on")
            desk.say("set low")
            self.told(shown, desk.say(f"cut {many}"))
            self.told(loose, desk.say("loose"))
        # A cut ahead of the start is refused and changes nothing: what was set can be set back.
        for many in range(6):
            desk = Desk(TEXT)
            desk.say("set on")
            self.told("refused", desk.say(f"cut {many}"))
            self.assertEqual([desk.say(line) for line in ("show", "loose", "back", "back")], ["on high", "8", "off high", "refused"])

    def test_what_is_said_hangs_on_sheet_and_situation_alone(self):
        random = Random(93)
        for sheet in some_sheets():
            said = {}
            for _ in range(4):
                desk = Desk(text_by_words(sheet))
                for _ in range(15):
                    desk.say(some_line(random, sheet))
                    told = tuple(desk.say(line) for line in ("show", "case", "within 7", "bits 8", "weight", "alpha", "least"))
                    self.assertEqual(said.setdefault(desk.say("kept"), told), told)

    def test_no_sheets(self):
        for value in any_values():
            if not isinstance(value, str):
                self.raised(BadText, "at", 0, Desk, value)
        for text, at in (("", 1), (TEXT + "\n", 6), ("one a\nother b\nfits a b", 4), (TEXT.replace("fits on high", "fits on low high low"), 4)):
            self.raised(BadText, "at", at, Desk, text)
        self.told("off high", Desk(text=TEXT).say(line="show"))


class Forms(Checks, unittest.TestCase):
    def test_values_of_no_form(self):
        random = Random(94)
        words = DeskByWords(SHEET)
        lines = ["", " ", ".", "show ", " show", "show show", "Show", "show\n", "set", "set ", "set on ", "set  on", "set On", "set on off", "set 1", "set a_b", "on",
                 "set abcdefghijklm", "set \u00e4", "back 1", "back on", "cut", "cut ", "cut -1", "cut 01", "cut 00", "cut 1000", "cut +1", "cut 1 2", "cut on", "cut  1",
                 "cut 1.", "cut \u0661", "cut \u00b2", "within", "within 007", "within 1e1", "within 9 9", "bits", "bits -0", "bits 1_0", "bits 0x1", "weight 1", "alpha .",
                 "least none", "kept 0", "case bounded", "short .", "loose 6", "refused", "undo", "judge", "judge 0", "judge 0 ", "judge off low 0 1 0 1",
                 "judge 0 off low", "judge 0 off low 0 1 0", "judge 0 off low 0 1 0 1 0", "judge 0 off low 0 1 0 1 on", "judge 00 off low 0 1 0 1",
                 "judge 1000 off low 0 1 0 1", "judge 0 off low 0 1 0 01", "judge 0 off 0 low 1 0 1", "judge 0 off low 0 1 0 1 on high 0 1 0",
                 "judge 0 Off low 0 1 0 1", "judge 0 off low 0 1 0 -1", "judge 0  off low 0 1 0 1", "judge 0 off low 0 1 0 1 ", "judge x off low 0 1 0 1",
                 "judge 0 off low 0 1 0 1\n", "judge 0 0 off low 0 1 0 1", "show\tkept"]
        for line in lines + any_values() + [["show"], ("set", "on"), b"show"]:
            self.assertFalse(has_form(line, CORNER), line)
            desk = Desk(TEXT)
            desk.say("set on")
            self.raised(BadText, "at", 0, desk.say, line)
            self.assertEqual([desk.say(told) for told in ("show", "loose", "back")], ["on high", "8", "off high"])
        # Right lines bent at one sign have a form or raise.
        seen = {True: 0, False: 0}
        right = ["show", "set low", "cut 12", "within 30", "judge 0 off low 0 1 0 1 on high 0 1 0 1", "judge 12 a b 1 2 3 4"]
        for line in right:
            for at in range(len(line) + 1):
                for sign in random.sample(" 0a9Z.z1\n", 5) + [""]:
                    for bent in {line[:at] + sign + line[at + 1:], line[:at] + sign + line[at:]}:
                        desk = Desk(TEXT)
                        form = has_form(bent, CORNER)
                        seen[form] += 1
                        if form:
                            self.assertIsInstance(desk.say(bent), str)
                        else:
                            self.raised(BadText, "at", 0, desk.say, bent)
        self.assertGreater(min(seen.values()), 100)
        self.assertEqual(words.show(), "off high")

    def test_refused_lines_change_nothing(self):
        for line in ("set nobody", "set one", "set abcdefghijkl", "cut 0", "cut 3", "cut 5", "judge 0 off low 0 1 0 2", "judge 1 off low 0 0 0 0",
                     "judge 0 low off 0 1 0 1", "judge 0 off nobody 0 1 0 1", "judge 0 on low 0 1 0 1", "judge 0 off off 0 1 0 1", "judge 999 off low 0 0 0 0",
                     "judge 0 off low 0 0 0 0", "judge 0 off low 0 1 0 1 on high 0 1 1 0", "judge 2 off low 0 1 0 1 on high 0 1 0 1"):
            desk = Desk(TEXT)
            desk.say("set on")
            desk.say("set low")
            self.told("refused", desk.say(line))
            self.assertEqual([desk.say(told) for told in ("show", "kept", "loose", "short", "back", "back", "back")],
                             ["off low", "3", "10", "on low", "on high", "off high", "refused"])

    def test_numbers_of_one_to_three_figures(self):
        desk = Desk(TEXT)
        for many in (0, 9, 10, 99, 100, 999):
            self.told(f"{many + 1} {2 * many + 1}", desk.say(f"within {many}"))
            self.told(str((2 * many).bit_length()), desk.say(f"bits {many}"))


class Asked(Checks, unittest.TestCase):
    def test_known_ones(self):
        text = "one a b c\nother x y\nfits a x\nfits b x\nfits c y\nstart a x"
        self.told((DESK, (0, 0), ("a", "b", "c"), ("x", "y")), read_sheet(text))
        desk = Desk(text)
        self.assertEqual([desk.say(line) for line in ("case", "kept", "weight", "alpha", "least", "within 4", "bits 4", "within 0", "bits 0", "short")],
                         ["grows 2/1 a b y", "0", ".", "none", "none", "4 11602", "14", "1 1", "0", "."])
        self.assertEqual([desk.say(line) for line in ("set b", "kept", "set y", "kept", "back", "kept", "back", "kept")],
                         ["b x", "1024", "c y", "3072", "b x", "1024", "a x", "0"])
        view = Desk("one a b\nother x y z\nfits a x y\nfits b y z\nstart a y")
        self.assertEqual([view.say(line) for line in ("case", "kept", "weight", "alpha", "within 1", "bits 1")],
                         ["bounded 6", "2", "2 1 1 2", "1", "2 6", "3"])
        self.told("2 a x 0 3 0 2 4 a x 1 4 1 3 5 a y 2 5 0 2 4 b y 0 3 1 3 5 b z 1 4 0 2 4 b z 2 5 1 3 5", view.say("least"))
        self.told("lossless 6 yes", view.say("judge " + view.say("least")))

    def test_judge(self):
        seen = {}
        machines = mixed_machines()[::4] + tuple(lossless_machines(95, 40))
        for machine in machines:
            bond = shown_bond(machine[1])
            names = some_words(Random(len(machine[1])), bond[0] + bond[1])
            # The start of the sheet need not be that of the machine.
            sheet = (bond, bond[2][-1], names[:bond[0]], names[bond[0]:])
            words, desk = DeskByWords(sheet), Desk(text_by_words(sheet))
            lost = loss_by_words(machine)
            if lost is None:
                forgets = "no" if kept_by_words(machine) else "yes"
                expected = f"lossless {len(classes_by_words(machine))} {forgets}"
            else:
                run, setting, parting = lost
                expected = f"loses {words.said(run)} / {words.said([setting])} / {words.said(parting)}"
            self.told(expected, desk.say(judged_line(words, machine)))
            self.told(words.show(), desk.say("show"))
            kind = expected.split(" ")[-1] if lost is None else "loses"
            seen[kind] = seen.get(kind, 0) + 1
        self.assertEqual(sorted(seen), ["loses", "no", "yes"])
        self.assertGreater(min(seen.values()), 5)

    def test_judge_told_fewer_pairs_or_others(self):
        desk = Desk(TEXT)
        self.told("lossless 2 yes", desk.say("judge 0 off low 0 1 0 1 on high 0 1 0 1"))
        self.told("lossless 2 yes", desk.say("judge 1 off low 0 1 0 1 on high 0 1 0 1"))
        self.told("loses on / low / .", desk.say("judge 0 off low 0 1 0 2 on high 0 1 0 1 off high 2 1 0 2"))
        self.told("refused", desk.say("judge 0 off low 0 1 0 1 on low 0 1 0 1"))
        self.told("refused", desk.say("judge 0 off high 0 1 1 0 on high 0 1 1 0"))

    def test_least_is_judged_lossless(self):
        seen = {True: 0, False: 0}
        for sheet in some_sheets():
            desk = Desk(text_by_words(sheet))
            least = desk.say("least")
            bounded = case_by_words(sheet[0], sheet[1])[0] == "bounded"
            seen[bounded] += 1
            self.assertEqual(least == "none", not bounded)
            if bounded:
                judged = desk.say("judge " + least)
                self.assertTrue(judged.startswith("lossless ") and judged.endswith(" yes"))
        self.assertGreater(min(seen.values()), 5)

    def test_at_the_limits(self):
        random, begun = Random(96), time.perf_counter()
        for bond, start in ((STAR, (0, 0)), (CORNER, (0, 1)), (full(6, 6), (5, 5)), (DESK, (2, 1))):
            names = some_words(random, bond[0] + bond[1])
            sheet = (bond, start, names[:bond[0]], names[bond[0]:])
            words, desk = DeskByWords(sheet), Desk(text_by_words(sheet))
            for _ in range(60):
                self.assertNotEqual(desk.say("set " + random.choice(names)), "refused")
            for line in ("short", "kept", "within 200", "bits 200", "cut 90", "alpha", "weight", "least", "case"):
                self.assertNotEqual(desk.say(line), "refused")
            machine = some_machine(random, bond, 40)
            lost = loss_by_words(machine)
            self.assertTrue(desk.say(judged_line(words, machine)).startswith("lossless " if lost is None else "loses "))
        self.assertLess(time.perf_counter() - begun, 10)

    def test_the_journal_is_one(self):
        random = Random(97)
        for sheet in some_sheets()[:12]:
            words = DeskByWords(sheet)
            desk = Desk(text_by_words(sheet))
            for _ in range(8):
                line = "set " + random.choice(sheet[2] + sheet[3])
                self.told(words.say(line), desk.say(line))
            self.told(str(len(words.octets)), desk.say("loose"))
            self.told((sheet[0], sheet[1], tuple(words.run), len(words.octets)), read_journal(words.octets))
            for many in range(words.head):
                self.raised(Broken, "at", many, read_journal, words.octets[:many])
            self.assertEqual(len(settings(sheet[0])), len(sheet[2] + sheet[3]))


if __name__ == "__main__":
    unittest.main()
