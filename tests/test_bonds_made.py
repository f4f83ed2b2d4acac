"""Promises 9 and 10: bonds made of bonds, bonds of rules, and the octets of bonds."""

import unittest
from itertools import product
from random import Random

from helpers import EVEN, VIEW, Checks, any_values, best, fitting, full, listed, lots, same, small_bonds, some_bonds
from test_bonds import NO_BONDS
from test_forms import FIELDS, NO_FIELDS, broken_at
from setitback.bonds import beside, bond_at, bond_octets, check_bond, joined, put_together, restricted, ruled, turned
from setitback.errors import BadBond, BadOctets, Broken, Refused
from setitback.forms import values_of

BONDS = list(small_bonds(3))
FEW = BONDS[::6] + some_bonds(11, 20)


class Made(Checks, unittest.TestCase):
    def test_turned(self):
        for bond in BONDS + FEW:
            other = turned(bond)
            self.told((bond[1], bond[0], tuple(sorted((t, s) for s, t in bond[2]))), other)
            self.told(bond, turned(other))
            self.assertEqual((best(other, 0), best(other, 1)), (best(bond, 1), best(bond, 0)))

    def test_restricted(self):
        for bond in BONDS + FEW:
            for side in (0, 1):
                greatest = best(bond, side)
                for lot in lots(bond[side]):
                    others = fitting(bond, side, lot)
                    found = restricted(bond, side, lot)
                    self.told(found, check_bond(found))
                    self.assertEqual((found[side], found[1 - side]), (len(lot), len(others)))
                    for here, there in product(range(len(lot)), range(len(others))):
                        old = (lot[here], others[there]) if side == 0 else (others[there], lot[here])
                        new = (here, there) if side == 0 else (there, here)
                        self.assertEqual(old in bond[2], new in found[2])
                    self.assertLessEqual(best(found, side), greatest)

    def test_joined(self):
        for one in FEW:
            for other in FEW:
                if one[:2] != other[:2]:
                    self.raised(Refused, "value", other, joined, one, other)
                    continue
                found = joined(one, other)
                self.told((*one[:2], tuple(sorted(set(one[2]) | set(other[2])))), found)
                for side in (0, 1):
                    self.assertLessEqual(best(found, side), min(best(one, side), best(other, side)))

    def test_put_together(self):
        for one in FEW:
            for other in FEW:
                if one[1] != other[0]:
                    self.raised(Refused, "value", other, put_together, one, other)
                    continue
                pairs = tuple((s, t) for s, t in product(range(one[0]), range(other[1]))
                              if any((s, x) in one[2] and (x, t) in other[2] for x in range(one[1])))
                found = put_together(one, other)
                self.told((one[0], other[1], pairs), found)
                for side in (0, 1):
                    self.assertLessEqual(best(found, side), best(one, side) * best(other, side))

    def test_beside(self):
        small = BONDS[:10] + BONDS[10::19]
        for one in small:
            for other in small:
                if one[0] * other[0] > 6 or one[1] * other[1] > 6:
                    self.raised(Refused, "value", other, beside, one, other)
                    continue
                rows = list(product(range(one[0]), range(other[0])))
                columns = list(product(range(one[1]), range(other[1])))
                pairs = tuple((s, t) for s, t in product(range(len(rows)), range(len(columns)))
                              if (rows[s][0], columns[t][0]) in one[2] and (rows[s][1], columns[t][1]) in other[2])
                found = beside(one, other)
                self.told((len(rows), len(columns), pairs), found)
                for side in (0, 1):
                    self.assertEqual(best(found, side), best(one, side) * best(other, side))

    def test_sides_beyond_six(self):
        self.told(full(6, 6), beside(full(2, 3), full(3, 2)))
        for one, other in ((full(2, 1), full(4, 1)), (full(1, 2), full(1, 4)), (full(6, 6), full(2, 1)), (full(6, 6), full(1, 2))):
            self.raised(Refused, "value", other, beside, one, other)

    def test_no_bonds(self):
        for value, at in NO_BONDS:
            self.raised(BadBond, "at", at, turned, value)
            self.raised(BadBond, "at", at, restricted, value, None, None)
            self.raised(BadBond, "at", at, bond_octets, value)
            for call in (joined, put_together, beside):
                self.raised(BadBond, "at", at, call, value, None)
                self.raised(BadBond, "at", at, call, EVEN, value)
                self.raised(BadBond, "at", at, call, VIEW, listed(value))

    def test_no_side_no_lot(self):
        for value in any_values():
            if type(value) is not int:
                self.raised(Refused, "value", value, restricted, VIEW, value, None)
            if not isinstance(value, (list, tuple)) or not any(same(tuple(value), lot) for lot in lots(3)):
                self.raised(Refused, "value", value, restricted, VIEW, 1, value)

    def test_lists_and_names(self):
        self.takes_lists(turned, VIEW)
        self.takes_lists(restricted, VIEW, 1, (0, 2))
        self.takes_lists(joined, EVEN, turned(EVEN))
        self.takes_lists(put_together, EVEN, VIEW)
        self.takes_lists(beside, EVEN, VIEW)
        self.takes_lists(bond_octets, VIEW)
        self.told(turned(VIEW), turned(bond=VIEW))
        self.told((1, 2, ((0, 0), (0, 1))), restricted(bond=VIEW, side=0, lot=[1]))
        self.told(full(2, 2), joined(one=EVEN, other=turned(EVEN)))
        self.told(put_together(EVEN, VIEW), put_together(one=EVEN, other=VIEW))
        self.told(beside(EVEN, VIEW), beside(one=EVEN, other=VIEW))
        self.told((2, 3, 3, 6), bond_octets(bond=VIEW))
        self.told(((2, 3, VIEW[2]), 4), bond_at(octets=[2, 3, 3, 6], at=0))
        self.told(full(2, 2), ruled(rows=[2], columns=[2], rules=[]))


class Rules(Checks, unittest.TestCase):
    def by_rules(self, rows, columns, rules):
        """The fitting pairs by the words of promise 10."""
        m, n = len(list(product(*map(range, rows)))), len(list(product(*map(range, columns))))
        pairs = []
        for s, t in product(range(m), range(n)):
            left, right = values_of(rows, s), values_of(columns, t)
            if all((left[at], right[by]) in pairs for at, by, pairs in rules):
                pairs.append((s, t))
        return m, n, tuple(pairs)

    def check(self, rows, columns, rules):
        m, n, pairs = self.by_rules(rows, columns, rules)
        if {s for s, _ in pairs} == set(range(m)) and {t for _, t in pairs} == set(range(n)):
            self.told((m, n, pairs), ruled(rows, columns, rules))
            self.told((m, n, pairs), ruled(*listed((rows, columns, rules))))
            return True
        self.raised(BadBond, "at", 3 + len(pairs), ruled, rows, columns, rules)
        return False

    def test_all_single_rules_of_two_values(self):
        every = list(product(range(2), repeat=2))
        for rows in ((2,), (2, 2), (2, 3), (1, 2)):
            for columns in ((2,), (2, 2)):
                for at, by in product(range(len(rows)), range(len(columns))):
                    if rows[at] != 2:
                        continue
                    for which in range(16):
                        pairs = tuple(pair for k, pair in enumerate(every) if which >> k & 1)
                        self.check(rows, columns, ((at, by, pairs),))
                        self.check(rows, columns, ((at, by, pairs[::-1] + pairs),))

    def test_many_rules(self):
        random = Random(3)
        held = 0
        for _ in range(600):
            rows, columns = random.choice(FIELDS), random.choice(FIELDS)
            rules = []
            for _ in range(random.randrange(4)):
                at, by = random.randrange(len(rows)), random.randrange(len(columns))
                every = list(product(range(rows[at]), range(columns[by])))
                rules.append((at, by, tuple(random.choices(every, k=random.randint(0, 12)))))
            held += self.check(rows, columns, tuple(rules))
        self.assertGreater(held, 100)

    def test_no_rules_fit_all(self):
        for rows in FIELDS[::5]:
            for columns in FIELDS[::7]:
                m, n, _ = self.by_rules(rows, columns, ())
                self.told(full(m, n), ruled(rows, columns, []))
        self.raised(BadBond, "at", 3, ruled, (2,), (2,), ((0, 0, ()),))
        self.told(full(1, 1), ruled((1,), (1,), [(0, 0, [(0, 0)])] * 25))

    def test_no_fields(self):
        for value in NO_FIELDS:
            self.raised(Refused, "value", value, ruled, value, None, None)
            self.raised(Refused, "value", value, ruled, (2,), value, None)

    def test_wrong_rules(self):
        wrong = [(), (0, 0), (0, 0, (), 0), (1, 0, ()), (0, 2, ()), (-1, 0, ()), (True, 0, ()), (False, 0, ()), (0, False, ()), (None, 0, ()),
                 (0, 0, None), (0, 0, "00"), (0, 0, (0, 0)), (0, 0, ((0,),)), (0, 0, ((2, 0),)), (0, 0, ((0, 2),)), (0, 1, ((0, 3),)),
                 (0, 0, ((0, 0), (0, -1))), (0, 0, ((0, False),)), (0, 0, ((True, 0),)), (0, 0, ((0, 0, 0),)), (0, 0, Refused(0)), None, 0, "000"]
        for rule in wrong:
            for rules in ((rule,), [(0, 0, ((0, 0), (1, 1))), listed(rule)]):
                self.raised(Refused, "value", rules, ruled, (2,), (2, 3), rules)
        for value in any_values():
            if value not in ((), []):
                self.raised(Refused, "value", value, ruled, (2,), (2, 3), value)


class BondOctets(Checks, unittest.TestCase):
    def test_written_and_read(self):
        for bond in BONDS + some_bonds(5, 80) + [full(6, 6)]:
            octets = bond_octets(bond)
            self.told((*bond[:2], *[sum(2 ** t for t in range(bond[1]) if (s, t) in bond[2]) for s in range(bond[0])]), octets)
            for ahead, behind in (((), ()), ((7, 0), ()), ((), (255,)), ((1, 1, 1), (1, 1, 1))):
                self.told((bond, len(ahead) + len(octets)), bond_at([*ahead, *octets, *behind], len(ahead)))
                for cut in range(len(octets)):
                    # Each beginning of what was written can be gone on with.
                    short = ahead + octets[:cut]
                    self.raised(Broken, "at", len(short), bond_at, short, len(ahead))

    def test_every_row_of_octets(self):
        writings = [bond_octets(bond) for bond in BONDS]
        beginnings = [(m, n) for m in range(1, 4) for n in range(1, 4)] + [(0, 1), (7, 1), (1, 0), (3, 7), (255, 255)]
        for m, n in beginnings:
            for many in range(5 if m == 3 else 4):
                for rest in product((0, 1, 2, 3, 4, 5, 7, 8, 255) if many < 4 else (0, 1, 3, 5), repeat=many):
                    octets = (m, n) + rest
                    at = broken_at(octets, 0, writings)
                    if at is not None:
                        self.raised(Broken, "at", at, bond_at, octets, 0)
                        self.raised(Broken, "at", at + 1, bond_at, (9,) + octets, 1)
                        continue
                    bond, behind = bond_at(octets, 0)
                    self.told(octets[:behind], bond_octets(bond))
                    self.told(bond, check_bond(bond))

    def test_broken_at_the_last_row(self):
        self.raised(Broken, "at", 3, bond_at, (2, 2, 1, 1), 0)
        self.raised(Broken, "at", 3, bond_at, (2, 2, 1, 4, 1), 0)
        self.raised(Broken, "at", 2, bond_at, (1, 2, 1, 2), 0)
        self.raised(Broken, "at", 2, bond_at, (6, 6, 0), 0)
        self.raised(Broken, "at", 2, bond_at, (6, 6, 64, 1), 0)
        self.raised(Broken, "at", 0, bond_at, (0,), 0)
        self.raised(Broken, "at", 1, bond_at, (6, 7, 1), 0)
        self.raised(Broken, "at", 1, bond_at, (6,), 0)
        self.raised(Broken, "at", 3, bond_at, (1, 1, 1), 3)
        self.raised(Broken, "at", 3, bond_at, (1, 1, 1), 50)
        self.raised(Broken, "at", 0, bond_at, (), 0)

    def test_no_octets_no_place(self):
        for value in (None, True, 0, "", "11", Refused(0)):
            self.raised(BadOctets, "at", -1, bond_at, value, None)
        for part in (-1, 256, True, None, "0", (0,)):
            self.raised(BadOctets, "at", 3, bond_at, [1, 1, 1, part, part], 0)
        for value in any_values():
            if type(value) is not int or value < 0:
                self.raised(Refused, "value", value, bond_at, (1, 1, 1), value)


if __name__ == "__main__":
    unittest.main()
