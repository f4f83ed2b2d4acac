"""Promises 5 and 6: fields, rows and fillings; settings and runs, their octets."""

import unittest
from itertools import product
from math import prod

from helpers import Checks, any_values, listed, never, refuses, same
from setitback.errors import BadOctets, Broken, NoFilling, Refused
from setitback.forms import (
    check_fields, check_run, check_setting, filling_count, filling_of, is_setting, read_run, setting_at, setting_octets,
    values_of, with_value, write_run,
)

FIELDS = [row for many in range(1, 5) for row in product(range(1, 7), repeat=many) if prod(row) <= 6]
SETTINGS = [(side, filling) for side in (0, 1) for filling in range(6)]
NO_FIELDS = [(), (1, 1, 1, 1, 1), (0,), (2, 0), (7,), (2, 4), (-1,), (-2, -3), (1, True), ("1",), (1, None), ((2,), 3), 3, "23"]
NO_SETTINGS = [(), (0,), (0, 0, 0), (2, 0), (-1, 0), (0, 6), (0, -1), (True, 0), (0, False), ("0", 0), (0, None), ((0,), 0), "00"]


def broken_at(octets, at, writings):
    """Where octets from a place on can no longer be gone on with to one of the writings; None if one begins there."""
    rest = octets[at:]
    if any(rest[:len(writing)] == writing for writing in writings):
        return None
    whole = max(k for k in range(len(rest) + 1) if any(writing[:k] == rest[:k] for writing in writings))
    return len(octets) if whole == len(rest) else at + whole


class Fields(Checks, unittest.TestCase):
    def test_all_forms_and_their_rows(self):
        self.assertEqual(len(FIELDS), 84)
        for fields in FIELDS:
            rows = sorted(product(*[range(many) for many in fields]))
            self.told(fields, check_fields(listed(fields)))
            self.told(len(rows), filling_count(fields))
            for number, row in enumerate(rows):
                self.told(number, filling_of(fields, row))
                self.told(row, values_of(fields, number))
                for at, many in enumerate(fields):
                    for value in range(many):
                        other = row[:at] + (value,) + row[at + 1:]
                        self.told(rows.index(other), with_value(fields, number, at, value))

    def test_no_fields(self):
        for value in NO_FIELDS + [listed(part) for part in NO_FIELDS] + [(10 ** 30, 1), [1, [1]]]:
            self.raised(Refused, "value", value, check_fields, value)
            self.raised(Refused, "value", value, filling_count, value)
            self.raised(Refused, "value", value, filling_of, value, None)
            self.raised(Refused, "value", value, values_of, value, None)
            self.raised(Refused, "value", value, with_value, value, None, None, None)

    def test_any_value_as_fields(self):
        def right(value):
            return isinstance(value, (list, tuple)) and tuple(value) in FIELDS and all(type(part) is int for part in value)
        refuses(self, Refused, "value", check_fields, (), right)
        refuses(self, Refused, "value", filling_count, (), right)

    def test_no_rows(self):
        for fields in FIELDS:
            for value in [(), fields, (0,) * (len(fields) + 1), (-1,) * len(fields), (False,) * len(fields), 0, "0", None]:
                self.raised(Refused, "value", value, filling_of, fields, value)
            row = [0] * len(fields)
            for at, many in enumerate(fields):
                for wrong in (many, -1, True, None, "0", (0,)):
                    value = row[:at] + [wrong] + row[at + 1:]
                    self.raised(Refused, "value", value, filling_of, fields, value)
        refuses(self, Refused, "value", filling_of, ((6,),), lambda value: False)
        self.told(0, filling_of((1,), (0,)))

    def test_no_fillings(self):
        for fields in FIELDS:
            for value in (filling_count(fields), -1, True, False, None, (0,), "0"):
                self.raised(NoFilling, "value", value, values_of, fields, value)
                self.raised(NoFilling, "value", value, with_value, fields, value, None, None)
        refuses(self, NoFilling, "value", values_of, ((2, 3),), never)
        refuses(self, NoFilling, "value", with_value, ((2, 3),), never, (0, 0))

    def test_no_field_or_no_value(self):
        refuses(self, Refused, "value", with_value, ((2, 3), 4), never, (0,))
        refuses(self, Refused, "value", with_value, ((2, 3), 4, 0), never)
        for fields in FIELDS:
            self.raised(Refused, "value", len(fields), with_value, fields, 0, len(fields), None)
            for at, many in enumerate(fields):
                self.raised(Refused, "value", many, with_value, fields, 0, at, many)
                self.raised(Refused, "value", True, with_value, fields, 0, at, True)

    def test_names_and_lists(self):
        self.told(5, filling_of(fields=[2, 3], values=[1, 2]))
        self.told((1, 1), values_of(fields=[2, 3], filling=4))
        self.told(1, with_value(fields=(2, 3), filling=4, at=0, value=0))
        self.told((2, 3), check_fields(value=[2, 3]))
        self.takes_lists(filling_count, (1, 2, 3, 1))
        self.takes_lists(filling_of, (2, 3), (1, 0))


class Settings(Checks, unittest.TestCase):
    def test_all_settings(self):
        for setting in SETTINGS:
            for value in (setting, list(setting)):
                self.told(True, is_setting(value))
                self.told(setting, check_setting(value))
                self.told(setting, setting_octets(value))

    def test_no_settings(self):
        for value in NO_SETTINGS + [listed(part) for part in NO_SETTINGS] + any_values():
            right = isinstance(value, (list, tuple)) and any(same(tuple(value), setting) for setting in SETTINGS)
            self.told(right, is_setting(value))
            if not right:
                self.raised(Refused, "value", value, check_setting, value)
                self.raised(Refused, "value", value, setting_octets, value)

    def test_runs(self):
        for many in range(4):
            for run in product(SETTINGS[::3], repeat=many):
                for value in (run, listed(run), [run[k] if k & 1 else list(run[k]) for k in range(many)]):
                    self.told(run, check_run(value))
                    self.told(tuple(octet for setting in run for octet in setting), write_run(value))

    def test_no_runs(self):
        wrong = NO_SETTINGS[:-1] + [None, 0, "", Refused(1)]
        for call in (check_run, write_run):
            for part in wrong:
                for value in ((part,), [(0, 0), part], ((0, 0), part, (1, 1))):
                    self.raised(Refused, "value", value, call, value)
            refuses(self, Refused, "value", call, (), lambda value: isinstance(value, (list, tuple)) and len(value) == 0)
            self.raised(Refused, "value", (0, 0), call, (0, 0))


class Octets(Checks, unittest.TestCase):
    def test_setting_at_every_place(self):
        for many in range(5):
            for octets in product((0, 1, 2, 5, 6, 255), repeat=many):
                for at in range(many + 3):
                    place = broken_at(octets, at, SETTINGS)
                    if place is None:
                        self.told((octets[at:at + 2], at + 2), setting_at(octets, at))
                    else:
                        self.raised(Broken, "at", place, setting_at, octets, at)

    def test_read_every_run(self):
        runs = [write_run(run) for many in range(4) for run in product([(0, 0), (0, 5), (1, 1), (1, 2)], repeat=many)]
        for many in range(6):
            for octets in product((0, 1, 2, 5, 6) if many > 3 else (0, 1, 2, 3, 5, 6, 255), repeat=many):
                good = [k for k in range(many + 1) if all(
                    octet < (6 if at & 1 else 2) for at, octet in enumerate(octets[:k]))][-1]
                if good < many:
                    self.raised(Broken, "at", good, read_run, octets)
                else:
                    whole = many // 2 * 2
                    run = tuple((octets[at], octets[at + 1]) for at in range(0, whole, 2))
                    self.told((run, whole), read_run(octets))
        for octets in runs:
            for cut in range(len(octets) + 1):
                run, behind = read_run(list(octets[:cut]))
                self.told(octets[:behind], write_run(run))
                self.told(cut // 2 * 2, behind)

    def test_written_settings_between_others(self):
        for setting in SETTINGS:
            for ahead in ((), (7,), (0, 255, 3)):
                for behind in ((), (0,), (255, 255)):
                    octets = ahead + setting_octets(setting) + behind
                    self.told((setting, len(ahead) + 2), setting_at(octets, len(ahead)))
                    self.told((setting, len(ahead) + 2), setting_at(octets=list(octets), at=len(ahead)))

    def test_far_behind(self):
        self.raised(Broken, "at", 2, setting_at, (0, 0), 10 ** 30)
        self.raised(Broken, "at", 0, setting_at, (), 0)
        self.told(((), 0), read_run([]))

    def test_no_octets(self):
        for call, rest in ((setting_at, (0,)), (setting_at, (None,)), (read_run, ())):
            for value in (None, True, 0, "", "01", Refused(0)):
                self.raised(BadOctets, "at", -1, call, value, *rest)
            for part in (-1, 256, True, False, None, "0", (0,), 10 ** 30):
                self.raised(BadOctets, "at", 0, call, (part,), *rest)
                self.raised(BadOctets, "at", 2, call, [0, 255, part, part, 7], *rest)

    def test_no_place(self):
        refuses(self, Refused, "value", setting_at, ((0, 0),), lambda value: type(value) is int and value >= 0)
        self.raised(Refused, "value", -1, setting_at, (9, 9), -1)


if __name__ == "__main__":
    unittest.main()
