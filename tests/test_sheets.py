"""Promise 77: sheets and their texts, bent and cut at every line and at every sign."""

import unittest
from functools import lru_cache
from random import Random

from case_words import CORNER, some_cases
from helpers import Checks, any_values, full, is_tuples, listed, refuses, small_bonds, some_bonds
from test_bonds import NO_BONDS
from setitback.errors import BadText, Refused
from setitback.sheets import check_sheet, read_sheet, write_sheet

SIGNS = "abcdefghijklmnopqrstuvwxyz0123456789"
TEXT = "one off on\nother low high\nfits off low high\nfits on high\nstart off high"
SHEET = (CORNER, (0, 1), ("off", "on"), ("low", "high"))


def is_word(text):
    return 1 <= len(text) <= 12 and all(sign in SIGNS for sign in text) and not text[0].isdigit()


def some_words(random, many):
    found = {}
    while len(found) < many:
        length = random.choice((1, 1, 2, 3, 12))
        found[random.choice(SIGNS[:26]) + "".join(random.choices(SIGNS, k=length - 1))] = True
    return tuple(found)


@lru_cache(None)
def some_sheets():
    random, found = Random(77), [SHEET]
    bonds = list(small_bonds(2)) + list(small_bonds(3))[::9] + some_bonds(77, 25) + [full(6, 6), full(1, 1), full(6, 1), full(1, 6)]
    for bond in bonds:
        words = some_words(random, bond[0] + bond[1])
        found.append((bond, random.choice(bond[2]), words[:bond[0]], words[bond[0]:]))
    # Words that a line begins with are words as others are.
    found.append((full(2, 2), (0, 1), ("one", "fits"), ("start", "other")))
    return tuple(found)


def text_by_words(sheet):
    bond, start, rows, columns = sheet
    lines = [["one", *rows], ["other", *columns]]
    lines += [["fits", word, *[columns[t] for t in range(bond[1]) if (s, t) in bond[2]]] for s, word in enumerate(rows)]
    return "\n".join(" ".join(line) for line in [*lines, ["start", rows[start[0]], columns[start[1]]]])


def lives(lines):
    """Whether lines can be the first ones of the text of a sheet, and whether they are all of it."""
    parts = [line.split(" ") for line in lines]
    names = []
    for line, word in zip(parts, ("one", "other")):
        names += line[1:]
        if line[0] != word or not 2 <= len(line) <= 7 or not all(map(is_word, names)) or len(set(names)) < len(names):
            return False, False
    if len(parts) < 3:
        return True, False
    rows, columns = parts[0][1:], parts[1][1:]
    pairs = []
    for word, line in zip(rows, parts[2:]):
        places = [columns.index(part) if part in columns else None for part in line[2:]]
        if line[:2] != ["fits", word] or None in places or not places or places != sorted(set(places)):
            return False, False
        pairs += [(word, part) for part in line[2:]]
    if len(parts) < 2 + len(rows):
        return True, False
    if {part for _, part in pairs} != set(columns):
        return False, False
    rest = parts[2 + len(rows):]
    if not rest:
        return True, False
    right = len(rest) == 1 and len(rest[0]) == 3 and rest[0][0] == "start" and tuple(rest[0][1:]) in pairs
    return right, right


def wrong_at(text):
    """The line at which BadText tells that it is no text; None if it is one."""
    lines = text.split("\n")
    for many in range(1, len(lines) + 1):
        if not lives(lines[:many])[0]:
            return many
    return None if lives(lines)[1] else len(lines) + 1


class Texts(Checks, unittest.TestCase):
    def check_text(self, text):
        at = wrong_at(text)
        if at is None:
            sheet = read_sheet(text)
            self.told(sheet, check_sheet(sheet))
            self.told(text, write_sheet(sheet))
            self.assertEqual(text, text_by_words(sheet))
            return True
        self.raised(BadText, "at", at, read_sheet, text)
        return False

    def test_written_and_read(self):
        for sheet in some_sheets():
            text = text_by_words(sheet)
            self.told(text, write_sheet(sheet))
            self.told(text, write_sheet(listed(sheet)))
            self.told(sheet, read_sheet(text))
            self.assertTrue(is_tuples(read_sheet(text)))
            self.assertIsNone(wrong_at(text))
        self.told(TEXT, write_sheet(sheet=SHEET))
        self.told(SHEET, read_sheet(text=TEXT))
        self.takes_lists(write_sheet, SHEET)

    def test_cut_at_every_sign_and_line(self):
        for sheet in some_sheets()[::3]:
            text = text_by_words(sheet)
            for many in range(len(text)):
                self.check_text(text[:many])
            lines = text.split("\n")
            for many in range(1, len(lines)):
                # What lacks its last lines is told by how many it has, and 1.
                self.raised(BadText, "at", many + 1, read_sheet, "\n".join(lines[:many]))
        self.raised(BadText, "at", 1, read_sheet, "")

    def test_bent_at_every_sign(self):
        random, seen = Random(78), {True: 0, False: 0}
        for sheet in some_sheets()[::4]:
            text = text_by_words(sheet)
            for at in range(len(text) + 1):
                for sign in random.sample(" \n.-_0aZ9z\t\r", 4) + [""]:
                    seen[self.check_text(text[:at] + sign + text[at + 1:])] += 1
                    if sign:
                        seen[self.check_text(text[:at] + sign + text[at:])] += 1
        self.assertGreater(min(seen.values()), 100)

    def test_bent_at_every_word_and_line(self):
        random, seen = Random(79), {True: 0, False: 0}
        for sheet in some_sheets():
            lines = [line.split(" ") for line in text_by_words(sheet).split("\n")]
            words = [word for line in lines for word in line] + ["new", "x" * 12, "x" * 13, "", "A", "0a"]
            for at, line in enumerate(lines):
                values = [lines[:at] + lines[at + 1:], lines[:at] + [line] + lines[at:], lines[:at] + [[""]] + lines[at:]]
                if at:
                    values.append(lines[:at - 1] + [line, lines[at - 1]] + lines[at + 1:])
                for place in range(len(line) + 1):
                    word = random.choice(words)
                    values += [lines[:at] + [fresh] + lines[at + 1:] for fresh in (
                        line[:place] + [word] + line[place + 1:], line[:place] + [word] + line[place:], line[:place] + line[place + 1:])]
                for value in values:
                    seen[self.check_text("\n".join(" ".join(parts) for parts in value))] += 1
        self.assertGreater(min(seen.values()), 50)

    def test_known_ones(self):
        for text, at in ((TEXT + "\n", 6), (TEXT + "\nstart off high", 6), ("\n" + TEXT, 1), (" " + TEXT, 1), (TEXT + " ", 5), (TEXT.replace("one", "two"), 1),
                         ("one", 1), ("one ", 1), ("one a", 2), ("one a\n", 2), ("one a\nother", 2), ("one a\nother a", 2), ("one a a", 1), ("one a b c d e f g", 1),
                         ("one a b c d e f", 2), ("one a\nother b c\nfits a b", 3), ("one a d\nother b c\nfits a b", 4), ("one a d\nother b c\nfits a b\nfits d b", 4),
                         ("one a d\nother b c\nfits d b", 3), ("one a\nother b c\nfits a c b", 3), ("one a\nother b c\nfits a b b c", 3), ("one a\nother b\nfits a", 3),
                         ("one a\nother b\nfits a b\nstart b a", 4), ("one a\nother b\nfits a b\nstart a", 4), ("one a\nother b\nfits a b\nstart a b b", 4),
                         ("one a\nother b\nfits a b\nstart  a b", 4), ("one a  d\nother b", 1), ("one a\nother b\nfits a  b", 3), ("One a", 1), ("one a\tb", 1),
                         ("one 1a", 1), ("one aB", 1), ("one a-b", 1), ("one abcdefghijklm", 1), ("one abcdefghijkl", 2), ("one \u00e4", 1), ("one a\u0661", 1),
                         ("one a\rother b", 1), (TEXT.replace("start off high", "start on low"), 5), (TEXT.replace("off low high", "off low"), 5)):
            self.raised(BadText, "at", at, read_sheet, text)
            self.assertEqual(wrong_at(text), at)

    def test_no_strings(self):
        for value in any_values() + [listed(SHEET), SHEET, [TEXT], TEXT.encode()]:
            if not isinstance(value, str):
                self.raised(BadText, "at", 0, read_sheet, value)

    def test_of_two_thousand_signs(self):
        words = tuple(f"{letter}{'x' * 11}" for letter in "abcdefghijkl")
        sheet = (full(6, 6), (5, 5), words[:6], words[6:])
        self.assertGreater(len(write_sheet(sheet)), 700)
        self.told(sheet, read_sheet(write_sheet(sheet)))
        self.raised(BadText, "at", 1, read_sheet, "one " + "a" * 2000)
        self.raised(BadText, "at", 1, read_sheet, "\n" * 2000)


class Sheets(Checks, unittest.TestCase):
    def test_check_sheet(self):
        for sheet in some_sheets():
            self.told(sheet, check_sheet(sheet))
            self.told(sheet, check_sheet(listed(sheet)))
            self.assertTrue(is_tuples(check_sheet(value=listed(sheet))))

    def test_words_of_one_and_of_twelve_signs(self):
        for word in ("a", "z", "a0", "z9", "abcdefghijkl", "a12345678901"):
            self.told((full(1, 1), (0, 0), (word,), ("y",)), check_sheet((full(1, 1), (0, 0), (word,), ("y",))))
        for word in ("", "abcdefghijklm", "0", "0a", "A", "aA", "a b", "a_b", "a.", "a\n", " a", "a ", "\u00e4", "a\u0661", None, 1, True, ("a",), b"a", "y"):
            for value in ((full(1, 1), (0, 0), (word,), ("y",)), [full(1, 1), [0, 0], ["y"], [word]]):
                self.raised(Refused, "value", value, check_sheet, value)
                self.raised(Refused, "value", value, write_sheet, value)

    def test_no_sheets(self):
        bond, start, rows, columns = SHEET
        values = [(value, start, rows, columns) for value, _ in NO_BONDS]
        values += [(bond, value, rows, columns) for value in [*any_values(), (1, 0), (True, 1), (0, 2), (0,)] if value not in ((0, 1), [0, 1])]
        values += [(bond, (0, 1), value, columns) for value in [*any_values(), ("off",), ("off", "on", "out"), ("off", "off"), ("off", "low"), "ab"]]
        values += [(bond, (0, 1), rows, value) for value in [*any_values(), ("low",), ("low", "low"), ("low", "off"), ("low", "high", "more"), "ab"]]
        values += [SHEET[:3], (*SHEET, ()), SHEET[0], (start, bond, rows, columns), (bond, start, columns + rows)]
        values = [value for value in values if not (isinstance(value, tuple) and ("flow", "cut") in value)]
        for call in (check_sheet, write_sheet):
            for value in values:
                self.raised(Refused, "value", value, call, value)
            refuses(self, Refused, "value", call, (), lambda value: False)

    def test_of_all_cases(self):
        random = Random(80)
        for bond, start in some_cases(20):
            words = some_words(random, bond[0] + bond[1])
            sheet = (bond, start, words[:bond[0]], words[bond[0]:])
            self.told(sheet, read_sheet(write_sheet(sheet)))


if __name__ == "__main__":
    unittest.main()
