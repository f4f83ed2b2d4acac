"""The document's own examples of all chapters that have some, as they stand there, and those of the README."""

import doctest
import unittest
from pathlib import Path

OVERVIEW = """
>>> from setitback.meaning import told, within
>>> from setitback.world import World
>>> bond = (2, 2, ((0, 0), (0, 1), (1, 1)))
>>> told(bond, (0, 0)), told(bond, (0, 1)), told((3, 2, ((0, 0), (1, 0), (2, 1))), (0, 0))
(('bounded', 2), ('steps', (1,)), ('grows', (2, 1), (0, 1), (1,)))
>>> world = World(bond, (0, 1))
>>> [world.take(setting) for setting in ((0, 1), (1, 0), (1, 1), (0, 0))], within(bond, (0, 1), 9)
([((1, 1), 2), ((0, 0), 3), ((1, 1), 2), ((0, 1), 0)], (10, 19))
"""

FORMS = """
>>> from setitback.forms import check_run, filling_count, filling_of, read_run, setting_at, values_of, with_value, write_run
>>> filling_count((2, 3)), filling_of((2, 3), (1, 2)), values_of((2, 3), 4), with_value((2, 3), 4, 0, 0)
(6, 5, (1, 1), 1)
>>> write_run([(0, 5), [1, 2]]), setting_at((7, 1, 3, 0), 1), read_run((0, 5, 1)), check_run([])
((0, 5, 1, 2), ((1, 3), 3), (((0, 5),), 2), ())
"""

BONDS = """
>>> from setitback.bonds import beside, bond_octets, degrees, only, partners, pieces, put_together, quotient, ruled, turned
>>> view = (2, 3, ((0, 0), (0, 1), (1, 1), (1, 2)))
>>> partners(view, 0, (0,)), only(view, 0, (0,)), degrees(view, 1), quotient(view, 1, (0, 1, 2)), turned(view)
((0, 1), (0,), (1, 2, 1), (3, 2), (3, 2, ((0, 0), (1, 0), (1, 1), (2, 1))))
>>> pieces((3, 3, ((0, 0), (1, 1), (1, 2), (2, 1)))), put_together(view, turned(view)), bond_octets(view)
((((0,), (0,)), ((1, 2), (1, 2))), (2, 2, ((0, 0), (0, 1), (1, 0), (1, 1))), (2, 3, 3, 6))
>>> ruled((2,), (2, 2), [(0, 1, [(0, 0), (1, 1), (1, 0)])])
(2, 4, ((0, 0), (0, 2), (1, 0), (1, 1), (1, 2), (1, 3)))
"""

FLOWS = """
>>> from setitback.flows import circulation, flow_holds, least
>>> from setitback.shares import climb, greatest, lot_at, product, quotient_holds, quotient_paper, share_sums
>>> circulation(2, [(0, 1, 2, 3), (1, 0, 0, 1)]), circulation(3, [(0, 1, 1, 1), (1, 2, 0, 4), (2, 0, 0, 4)])
(('cut', (1,)), ('flow', (1, 1, 1)))
>>> least(2, [(0, 1, 0, 5), (0, 1, 0, 5), (1, 0, 3, 5)]), flow_holds(2, [(0, 1, 2, 3), (1, 0, 0, 1)], ["cut", [1]])
((0, 3, 3), True)
>>> desk = (3, 2, ((0, 0), (1, 0), (2, 0), (2, 1)))
>>> greatest(desk, 0), greatest(desk, 1), product(desk), climb(desk, 0)
(((2, 1), (0, 1)), ((1, 1), (1,)), (2, 1), (((3, 2), (0, 1, 2)), ((2, 1), (0, 1))))
>>> lot_at(desk, 0, (5, 2)), lot_at(desk, 0, (0, 1)), quotient_paper(desk, 0), share_sums(desk, [1, 1, 0, 1])
((), (0, 1, 2), ('quotient', (0, 1), (1, 1, 0, 1)), ((1, 1, 1), (2, 1)))
>>> quotient_holds(desk, 0, ["quotient", [0, 1], [2, 2, 0, 2]])
True
"""

TIGHT = """
>>> from setitback.tight import blocks, carried, crossing, is_tight, least_tight, tight_lots
>>> even = (2, 2, ((0, 0), (1, 0), (1, 1)))
>>> tight_lots(even, 0), tight_lots(even, 1), least_tight(even, 0, 1), is_tight(even, 0, (1,))
(((0,), (0, 1)), ((1,), (0, 1)), (0, 1), False)
>>> carried(even), blocks(even), crossing(even, (1, 0)), crossing(even, (1, 1))
(((0, 0), (1, 1)), (((0,), (0,)), ((1,), (1,))), (0,), None)
>>> carried((3, 2, ((0, 0), (1, 0), (2, 0), (2, 1))))
((0, 0), (1, 0), (2, 1))
"""

WEIGHTS = """
>>> from setitback.weights import anywhere, anywhere_holds, anywhere_paper, asked, balanced, is_balanced, start_holds, start_paper
>>> even, full = (2, 2, ((0, 0), (1, 0), (1, 1))), (2, 2, ((0, 0), (0, 1), (1, 0), (1, 1)))
>>> balanced(even, None), balanced(even, (1, 0)), is_balanced(even, [3, 0, 3]), balanced(full, (0, 0))
((1, 0, 1), None, True, (1, 0, 0, 1))
>>> start_paper(even, (1, 0)), start_paper(even, (1, 1)), start_holds(full, (0, 1), ["carried", [1, 2, 2, 1]])
(('crossed', (0,)), ('carried', (1, 0, 1)), True)
>>> asked(full, 0, (0,)), asked(even, 0, (0,)), anywhere(full), anywhere_paper(full), anywhere_paper(even)
(2, None, 2, ('anywhere', 0, (0,), (1, 1, 1, 1)), ('barred', 0, (0,)))
>>> anywhere_holds(full, ("anywhere", 1, (1,), (1, 1, 1, 1)))
True
"""

MACHINES = """
>>> from setitback.alike import apart, are_alike, class_of, classes, made_least, parting
>>> from setitback.machines import bond_of, come, come_by, led, seen, shown, trimmed
>>> desk = (0, ((0, 0), (0, 1), (1, 1)), (((0, 2), (0, 1)), ((0, 2), (0, 2)), ((1, 2), (0, 2))))
>>> bond_of(desk), shown(desk, 2), led(desk, 0, ((0, 1), (1, 0))), seen(desk, ((0, 1), (0, 0)))
((2, 2, ((0, 0), (0, 1), (1, 1))), (1, 1), 0, ((0, 0), (1, 1), (0, 1)))
>>> come(desk), come_by(desk, 1), trimmed(desk)[1]
((0, 1, 2), ((1, 1),), ((0, 0), (1, 1), (0, 1)))
>>> twins = (1, ((0, 0), (0, 0), (1, 0)), (((1, 2), (1,)), ((0, 2), (0,)), ((0, 2), (2,))))
>>> classes(twins), class_of(twins, 1), are_alike(twins, 0, 1), parting(twins, 0, 2), made_least(twins)
(((0, 1), (2,)), 0, True, (), (0, ((0, 0), (1, 0)), (((0, 1), (0,)), ((0, 1), (1,)))))
>>> other = (0, ((0, 0), (1, 0), (0, 0)), (((0, 1), (2,)), ((0, 1), (1,)), ((0, 1), (0,))))
>>> apart(twins, other) is None
True
"""

LOSSLESS = """
>>> from setitback.lossless import is_forgetful, is_lossless, kept, loss, lost_at, onto, walk_back
>>> desk = (0, ((0, 0), (0, 1), (1, 1)), (((0, 2), (0, 1)), ((0, 2), (0, 2)), ((1, 2), (0, 2))))
>>> loss(desk), lost_at(desk, ((0, 1),)), lost_at(desk, ((1, 1),)), kept(desk), walk_back(desk, 0, ((0, 1), (1, 0)))
(((), (0, 1), ()), ((1, 0), ()), ((0, 0), ()), ((), (0, 1), (0, 0), ()), ((1, 1), (0, 0)))
>>> twins = (1, ((0, 0), (0, 0), (1, 0)), (((1, 2), (1,)), ((0, 2), (0,)), ((0, 2), (2,))))
>>> is_lossless(twins), is_forgetful(twins), onto(twins, 0, 0, 1), onto(twins, 1, 0, 0)
(True, True, (1,), (0, 1))
"""

FINITE = """
>>> from setitback.finite import is_least, least_machine, machine_of, orbits, weight_of, woven
>>> view = (2, 3, ((0, 0), (0, 1), (1, 1), (1, 2)))
>>> least = least_machine(view, (0, 1))
>>> least[0], least[1], least[2][2], is_least(least), weight_of(view, least)
(2, ((0, 0), (0, 0), (0, 1), (1, 1), (1, 2), (1, 2)), ((2, 5), (0, 2, 4)), True, (2, 1, 1, 2))
>>> orbits(least, 0), orbits(least, 1), least_machine((2, 2, ((0, 0), (0, 1), (1, 1))), (0, 1))
(((0, 3), (1, 4), (2, 5)), ((0, 2, 4), (1, 3, 5)), None)
>>> machine_of((2, 2, ((0, 0), (0, 1), (1, 1))), (1, 0, 1), (1, 1))
(1, ((0, 0), (1, 1)), (((0, 1), (0, 1)), ((0, 1), (0, 1))))
>>> woven((2, 1, ((0, 0), (1, 0))), ((0, 0), (1, 0)), 0, ((0, 1),), ((0,), (1,)))
(0, ((0, 0), (1, 0)), (((0, 1), (0,)), ((0, 1), (1,))))
"""

HOTEL = """
>>> from setitback.hotel import Hotel
>>> hotel = Hotel((2, 2, ((0, 0), (0, 1), (1, 1))), (0, 1))
>>> hotel.kinds, [hotel.shown(situation) for situation in range(5)]
(((0, 0), (1, 1)), [(0, 1), (0, 0), (1, 1), (0, 0), (1, 1)])
>>> hotel.put(0, (0, 1)), hotel.put(2, (1, 0)), hotel.put(3, (1, 1)), hotel.put(2, (0, 0))
(2, 3, 2, 0)
>>> hotel.rank(10 ** 30, 1) == 5 * 10 ** 29, hotel.led(10 ** 30, ((1, 0), (0, 0), (1, 1))) == 10 ** 30, hotel.within(7)
(True, True, (8, 15))
"""

LADDER = """
>>> from setitback.ladder import enough, layers, steps
>>> view = (3, 2, ((0, 0), (1, 0), (2, 1)))
>>> steps(view, 2, 3), layers(view, (0, 0), 2, 2), enough(view)
(((2, 4, 6, 10), (3, 5, 9, 13)), ((1, 2, 3), (2, 2, 2)), 1024)
>>> from setitback.growing import Growing
>>> growing = Growing(view, (0, 0))
>>> growing.weight(0), growing.weight(1), growing.within(4)
((1023, 1024, 1448), (425, 425, 601), (4, 11602))
>>> growing.put(0, (0, 1)), growing.put(1024, (1, 1)), growing.put(3072, (0, 0)), growing.layer(3496)
(1024, 3072, 3496, 1)
>>> growing.led(3496, ((0, 2), (1, 0), (0, 0)))
0
"""

BALLS = """
>>> from setitback.balls import counted, due, judged, levels, narrow, narrow_number, told_number
>>> desk, corner = (3, 2, ((0, 0), (1, 0), (2, 1))), (2, 2, ((0, 0), (0, 1), (1, 1)))
>>> machine = (0, desk[2], (((0, 1, 2), (0, 2)), ((0, 1, 2), (1, 2)), ((0, 1, 2), (0, 2))))
>>> counted(machine, 2), due(desk, (0, 0), 3)
(((1, 1, 1), (3, 1, 2), (3, 1, 2)), ((1, 1, 1), (3, 1, 2), (4, 2, 2), (6, 2, 4)))
>>> judged(machine), levels(machine), narrow(machine)
(('loses', 3, 1, (((0, 1),), (1, 1), ())), (((),), (((0, 0),), ((0, 1),))), (((0, 1),), (1, 1), ()))
>>> told_number(corner, (0, 1), 5), told_number(corner, (0, 0), 5), told_number(corner, (0, 0), 1), narrow_number(desk, 3)
(4, None, 0, 2)
"""

VIEWS = """
>>> from setitback.views import complement, fewest, fibres, from_complement, put_back, spread, view_bond, view_of
>>> alike, free = (0, 1, 0, 1), (0, 0, 0, 1)
>>> fibres(alike), fibres(free), spread(alike), spread(free), fewest(free, 5)
(((0, 2), (1, 3)), ((0, 1, 2), (3,)), (1, 1), (3, 1), 9)
>>> complement(alike, 3), put_back(alike, 0, 1), put_back(alike, 3, 0), from_complement(alike, 1, 1)
(1, 1, 2, 3)
>>> view_bond(free), view_of(view_bond(alike))
((4, 2, ((0, 0), (1, 0), (2, 0), (3, 1))), (0, 1, 0, 1))
"""

TREES = """
>>> from setitback.glued import glued, glued_holds, led_through
>>> from setitback.trees import barring, edge_bond, fewest_situations, fitting
>>> tree = ((2, 2, 2), ((0, 1, ((0, 0), (1, 1))), (1, 2, ((0, 0), (1, 0), (1, 1)))))
>>> fitting(tree), edge_bond(tree, 1)
(((0, 0, 0), (1, 1, 0), (1, 1, 1)), (2, 2, ((0, 0), (1, 0), (1, 1))))
>>> barring(tree, (1, 1, 0)), barring(tree, (0, 0, 0)), fewest_situations(tree, (0, 0, 0)), fewest_situations(tree, (1, 1, 0))
(1, None, 2, None)
>>> machine = (0, ((0, 0, 0), (1, 1, 1)), (((0, 1), (0, 1), (0, 1)), ((0, 1), (0, 1), (0, 1))))
>>> glued_holds(tree, (0, 0, 0), machine), glued_holds(tree, (1, 1, 1), machine), glued_holds(tree, (0, 0, 0), glued(tree, (0, 0, 0)))
(True, False, True)
>>> led_through(tree, (0, 0, 0), machine, [(2, 1), (0, 0)])
((0, 0, 0), (1, 1, 1), (0, 0, 0))
"""

MANY = """
>>> from setitback.many import least_step, plan_holds, plan_machine, plan_of, bound_holds
>>> even, desk = plan_of((2, 2, ((0, 0), (1, 0), (1, 1)))), plan_of((3, 2, ((0, 0), (1, 0), (2, 0), (2, 1))))
>>> plan_holds(even, (0, 0), ("carried", (2, 0, 2))), plan_holds(even, (1, 0), ["crossed", [[-1, 1], [1, -1]]]), desk
(True, True, ((3, 2), ((0, 0), (1, 0), (2, 0), (2, 1))))
>>> least_step(desk, 10), bound_holds(desk, (3, 2), ["weight", [2, 2, 0, 3]])
(15, True)
>>> bound_holds(desk, (5, 4), ("prices", ((-10, -10, 15), (11, -14)))), bound_holds(desk, (3, 2), ("prices", ((-10, -10, 15), (11, -14))))
(True, False)
>>> plan_machine(even, (1, 0, 1), (0, 0))
(0, ((0, 0), (1, 1)), (((0, 1), (0, 1)), ((0, 1), (0, 1))))
"""

CHANGE = """
>>> from setitback.change import bent, change, cheap_machine, cheapest, cheapest_holds, is_convex, line_change, line_of, table_of
>>> square, new = (25, 16, 9, 4, 1, 0, 1, 4, 9, 16, 25), (1, 1, 1, 1, 1, 0, 1, 1, 1, 1, 1)
>>> is_convex(square), bent(square), bent(new), line_change(new, (1, 2), (0, 1)), cheapest(table_of(new, 3), (1, 2), (0, 1))[0]
(True, None, ((1, 2), (0, 1)), 2, 1)
>>> view = (2, 3, ((0, 0), (0, 1), (1, 1), (1, 2)))
>>> line_of(view, (2, 1, 1, 2), 0, 0), line_of(view, (2, 1, 1, 2), 0, 1), line_change(square, (0, 0, 1), (1, 2, 2))
((0, 0, 1), (1, 2, 2), 6)
>>> from setitback.finite import machine_of
>>> change(machine_of(view, (2, 1, 1, 2), (0, 1)), 0, 0, 1, table_of(square, 3))
6
>>> change(cheap_machine(view, (2, 1, 1, 2), (0, 1), table_of(new, 2), table_of(new, 3)), 0, 0, 1, table_of(new, 3))
2
>>> cheapest_holds(table_of(new, 3), (1, 2), (0, 1), (1, (1, 0), ((0, 1), (0, 0))))
True
"""

STILL = """
>>> from setitback.still import is_still, still_bar, still_machine, still_weight, touched
>>> ring = (3, 3, ((0, 0), (0, 1), (1, 1), (1, 2), (2, 0), (2, 2)))
>>> still = still_machine(ring, (0, 0))
>>> still_weight(ring), still[2][0], is_still(ring, still), touched(ring, (0, ((0, 0), (1, 1), (2, 2)), (((0, 1, 2),) * 2,) * 3))
((1, 1, 1, 1, 1, 1), ((0, 3, 4), (0, 1, 3)), True, ((), (0, 2)))
>>> still_bar((2, 2, ((0, 0), (0, 1), (1, 1)))), still_bar((3, 2, ((0, 0), (1, 0), (2, 1))))
(('degree', 0, 0, 1), ('sizes', 0, 1))
>>> still_weight((3, 3, ((0, 0), (1, 1), (1, 2), (2, 1), (2, 2)))), still_machine((2, 2, ((0, 0), (0, 1), (1, 1))), (0, 0))
((2, 1, 1, 1, 1), None)
"""

WHOLE = """
>>> from setitback.meaning import bits, paper, paper_holds, told, within
>>> square, corner, view = (2, 2, ((0, 0), (1, 1))), (2, 2, ((0, 0), (0, 1), (1, 1))), (3, 2, ((0, 0), (1, 0), (2, 1)))
>>> told(square, (1, 1)), told(corner, (0, 1)), told(corner, (0, 0)), told(view, (2, 1))
(('bounded', 2), ('steps', (1,)), ('bounded', 2), ('grows', (2, 1), (0, 1), (1,)))
>>> paper(corner, (0, 1)), paper_holds(view, (0, 0), ('grows', (0, 1), (1,))), paper_holds(corner, (0, 0), ('steps', (1, 0, 1), (1,)))
(('steps', (1, 0, 1), (1,)), True, False)
>>> within(square, (1, 1), 9), within(corner, (0, 1), 9), within(view, (0, 0), 4), bits(view, (0, 0), 4)
((2, 2), (10, 19), (4, 11602), 14)
>>> from setitback.world import World
>>> world = World(corner, (0, 1))
>>> run = ((0, 1), (1, 0), (0, 1))
>>> back = world.backs(run)
>>> world.take_all(run), back, world.take_all(back)
(((1, 1), 6), ((0, 0), (1, 1), (0, 0)), ((0, 1), 0))
"""

JOURNAL = """
>>> from setitback.journal import Journal, from_note, note, opened, read_journal, short
>>> corner = (2, 2, ((0, 0), (0, 1), (1, 1)))
>>> journal = Journal(corner, (0, 1))
>>> journal.take((0, 1)), journal.take((1, 0)), journal.octets
(((1, 1), 2), ((0, 0), 3), (2, 2, 3, 2, 0, 1, 0, 1, 1, 0))
>>> read_journal(journal.octets[:9])[2:], opened(journal.octets[:9]).world.tells()
((((0, 1),), 8), ((1, 1), 2))
>>> note(corner, (0, 1), 3), from_note(note(corner, (0, 1), 3)).take((1, 1))
((2, 2, 3, 2, 0, 1, 1, 3), ((1, 1), 2))
>>> short(corner, (0, 1), ((0, 1), (0, 0), (1, 1))), short(corner, (0, 1), ((0, 1), (1, 0), (1, 1), (1, 0)))
((), ((0, 1), (1, 0)))
"""

LINES = r"""
>>> from setitback.desk import Desk
>>> from setitback.sheets import read_sheet, write_sheet
>>> text = "one off on\nother low high\nfits off low high\nfits on high\nstart off high"
>>> read_sheet(text), write_sheet(((1, 2, ((0, 0), (0, 1))), (0, 1), ("a",), ("x1", "y")))
(((2, 2, ((0, 0), (0, 1), (1, 1))), (0, 1), ('off', 'on'), ('low', 'high')), 'one a\nother x1 y\nfits a x1 y\nstart a y')
>>> desk = Desk(text)
>>> [desk.say(line) for line in ("case", "kept", "set on", "set low", "kept", "back", "kept", "back", "kept", "back")]
['steps on', '0', 'on high', 'off low', '3', 'on high', '2', 'off high', '0', 'refused']
>>> [desk.say(line) for line in ("within 9", "bits 9", "weight", "alpha", "least", "set on", "short", "loose", "cut 8", "short")]
['10 19', '5', '1 0 1', 'none', 'none', 'on high', 'on', '16', 'on high', 'on']
>>> desk.say("judge 0 off low 0 1 0 1 on high 0 1 0 1"), desk.say("judge 0 off low 0 1 0 2 on high 0 1 0 1 off high 2 1 0 2")
('lossless 2 yes', 'loses on / low / .')
"""


def run_examples(case, text):
    """Run the examples of a chapter; a test that fails shows what they printed."""
    test = doctest.DocTestParser().get_doctest(text, {}, case.id(), None, 0)
    said = []
    runner = doctest.DocTestRunner(verbose=False)
    runner.run(test, out=said.append)
    case.assertGreater(runner.tries, 1)
    case.assertEqual(runner.failures, 0, "".join(said))


class Examples(unittest.TestCase):
    def test_readme(self):
        run_examples(self, (Path(__file__).resolve().parent.parent / "README.md").read_text(encoding="utf-8"))

    def test_chapter_1(self):
        run_examples(self, OVERVIEW)

    def test_chapter_3(self):
        run_examples(self, FORMS)

    def test_chapter_4(self):
        run_examples(self, BONDS)

    def test_chapter_5(self):
        run_examples(self, FLOWS)

    def test_chapter_6(self):
        run_examples(self, TIGHT)

    def test_chapter_7(self):
        run_examples(self, WEIGHTS)

    def test_chapter_8(self):
        run_examples(self, MACHINES)

    def test_chapter_9(self):
        run_examples(self, LOSSLESS)

    def test_chapter_10(self):
        run_examples(self, FINITE)

    def test_chapter_11(self):
        run_examples(self, HOTEL)

    def test_chapter_12(self):
        run_examples(self, LADDER)

    def test_chapter_13(self):
        run_examples(self, BALLS)

    def test_chapter_14(self):
        run_examples(self, VIEWS)

    def test_chapter_15(self):
        run_examples(self, TREES)

    def test_chapter_16(self):
        run_examples(self, MANY)

    def test_chapter_17(self):
        run_examples(self, CHANGE)

    def test_chapter_18(self):
        run_examples(self, STILL)

    def test_chapter_19(self):
        run_examples(self, WHOLE)

    def test_chapter_20(self):
        run_examples(self, JOURNAL)

    def test_chapter_21(self):
        run_examples(self, LINES)


if __name__ == "__main__":
    unittest.main()
