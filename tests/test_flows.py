"""Promises 11 and 12: circulations or cuts, and the least circulation."""

import unittest
from itertools import product
from random import Random

from helpers import Checks, any_values, listed, lots
from setitback.errors import Refused
from setitback.flows import circulation, flow_holds, least


def is_flow(nodes, arcs, values):
    """Whether values are a circulation, by the words of promise 11."""
    if len(values) != len(arcs) or any(not low <= x <= high for x, (_, _, low, high) in zip(values, arcs)):
        return False
    return all(sum(x for x, arc in zip(values, arcs) if arc[1] == node) == sum(x for x, arc in zip(values, arcs) if arc[0] == node)
               for node in range(nodes))


def is_cut(arcs, lot):
    comes = sum(arc[2] for arc in arcs if arc[1] in lot and arc[0] not in lot)
    return comes > sum(arc[3] for arc in arcs if arc[0] in lot and arc[1] not in lot)


def all_circulations(nodes, arcs):
    """All of them, ascending."""
    every = product(*[range(low, high + 1) for _, _, low, high in arcs])
    return [values for values in every if is_flow(nodes, arcs, values)]


def small_nets():
    """All nets of two nodes with up to two arcs of numbers to 2, and many of three and four nodes."""
    spans = [(low, high) for low in range(3) for high in range(low, 3)]
    arcs = [(begin, 1 - begin, *span) for begin in (0, 1) for span in spans]
    for many in range(3):
        for net in product(arcs, repeat=many):
            yield 2, net
    random = Random(5)
    for _ in range(1500):
        nodes = random.randint(2, 4)
        net = []
        for _ in range(random.randint(1, 5)):
            begin, end = random.sample(range(nodes), 2)
            low = random.choice((0, 0, 0, 1, 2))
            net.append((begin, end, low, low + random.randrange(4)))
        yield nodes, tuple(net)


NETS = list(small_nets())


class Circulations(Checks, unittest.TestCase):
    def test_small_nets(self):
        flows = cuts = 0
        for nodes, arcs in NETS:
            every = all_circulations(nodes, arcs)
            barring = [lot for lot in lots(nodes) if is_cut(arcs, lot)]
            # Hoffman: just one of the two is there.
            self.assertNotEqual(bool(every), bool(barring))
            word, told = found = circulation(nodes, arcs)
            self.assertIs(type(found), tuple)
            if every:
                self.assertEqual(word, "flow")
                self.assertTrue(any(told == values and type(told) is tuple for values in every))
                self.told(every[0], least(nodes, arcs))
                flows += 1
            else:
                self.assertEqual(word, "cut")
                self.assertTrue(any(told == lot and type(told) is tuple for lot in barring))
                self.told(None, least(nodes, arcs))
                cuts += 1
            self.told(True, flow_holds(nodes, arcs, found))
        self.assertGreater(min(flows, cuts), 300)

    def test_holds_is_just_these(self):
        for nodes, arcs in NETS[::9]:
            for lot in lots(nodes):
                self.told(is_cut(arcs, lot), flow_holds(nodes, arcs, ("cut", lot)))
                self.told(is_cut(arcs, lot), flow_holds(nodes, listed(arcs), ["cut", list(lot)]))
            for values in product(*[range(low - 1, high + 2) for _, _, low, high in arcs[:4]]):
                right = is_flow(nodes, arcs[:4], values)
                self.told(right, flow_holds(nodes, arcs[:4], ("flow", values)))

    def test_bent_flows_and_cuts(self):
        for nodes, arcs in NETS[::5]:
            word, told = circulation(nodes, arcs)
            for at in range(len(told)):
                for part in (True, False, None, "1", (told[at],), -1, 10 ** 30):
                    value = told[:at] + (part,) + told[at + 1:]
                    self.told(False, flow_holds(nodes, arcs, (word, value)))
            self.told(False, flow_holds(nodes, arcs, (word, told + (0,))))
            self.told(False, flow_holds(nodes, arcs, (word, told, told)))
            self.told(False, flow_holds(nodes, arcs, (word.upper(), told)))
            self.told(False, flow_holds(nodes, arcs, (word,)))
            self.told(False, flow_holds(nodes, arcs, told))
            self.told(False, flow_holds(nodes, arcs, (told, word)))
            if len(told) > 1:
                self.told(False, flow_holds(nodes, arcs, (word, told[1:] if word == "flow" else told[::-1])))
            self.told(False, flow_holds(nodes, arcs, ("cut", ())))

    def test_no_paper(self):
        arcs = ((0, 1, 1, 2), (1, 0, 0, 2))
        for value in any_values():
            self.told(False, flow_holds(2, arcs, value))
            self.told(False, flow_holds(2, arcs, ("flow", value)))
            self.told(False, flow_holds(2, arcs, ("cut", value)))
            self.told(value == "flow", flow_holds(2, arcs, (value, (1, 1))))
        self.told(True, flow_holds(2, arcs, ("flow", (1, 1))))
        self.told(False, flow_holds(2, arcs, ("flow", (1, True))))
        self.told(False, flow_holds(2, [(0, 1, 2, 3), (1, 0, 0, 1)], ["cut", [True]]))
        self.told(False, flow_holds(2, [(0, 1, 2, 3), (1, 0, 0, 1)], ["cut", [1, 1]]))
        self.told(False, flow_holds(2, [(0, 1, 2, 3), (1, 0, 0, 1)], ["cut", [2]]))

    def test_no_arcs(self):
        for nodes in range(1, 21):
            self.told(("flow", ()), circulation(nodes, ()))
            self.told((), least(nodes, []))
            self.told(True, flow_holds(nodes, (), ("flow", [])))
            self.told(False, flow_holds(nodes, (), ("cut", (0,))))

    def test_arcs_side_by_side(self):
        arcs = ((0, 1, 0, 3),) * 3 + ((1, 0, 5, 5),)
        self.told((0, 2, 3, 5), least(2, arcs))
        self.told((1, 1, 2, 4), least(2, ((0, 1, 1, 2),) * 3 + ((1, 0, 4, 5),)))

    def test_names_lists_and_passed_values(self):
        arcs = [[0, 1, 0, 5], [0, 1, 0, 5], [1, 0, 3, 5]]
        self.told((0, 3, 3), least(nodes=2, arcs=arcs))
        self.told(True, flow_holds(nodes=2, arcs=arcs, value=circulation(nodes=2, arcs=arcs)))
        self.told([[0, 1, 0, 5], [0, 1, 0, 5], [1, 0, 3, 5]], arcs)
        for nodes, net in NETS[::50]:
            self.takes_lists(circulation, nodes, net)
            self.takes_lists(least, nodes, net)
            self.takes_lists(flow_holds, nodes, net, circulation(nodes, net))


class Wrong(Checks, unittest.TestCase):
    def test_no_nodes(self):
        for call, rest in ((circulation, ()), (least, ()), (flow_holds, (None,))):
            for value in any_values() + [0, 21]:
                if type(value) is not int or not 1 <= value <= 20:
                    self.raised(Refused, "value", value, call, value, None, *rest)
                    self.raised(Refused, "value", value, call, value, (), *rest)

    def test_no_arcs_by_their_form(self):
        wrong = [(), (0, 1, 1), (0, 1, 1, 1, 1), (0, 0, 1, 1), (0, 2, 1, 1), (2, 0, 1, 1), (-1, 0, 1, 1), (0, -1, 1, 1), (0, 1, 2, 1), (0, 1, -1, 1),
                 (0, 1, -2, -1), (True, 0, 1, 1), (0, True, 1, 1), (0, 1, True, 1), (0, 1, 0, True), (0, 1, False, 0), (None, 0, 1, 1), (0, 1, None, 1),
                 (0, 1, 1, None), ("0", 1, 1, 1), (0, 1, "0", "1"), (0, 1, (1,), 2), "0111", None, 1]
        for call, rest in ((circulation, ()), (least, ()), (flow_holds, (None,))):
            for arc in wrong:
                for arcs in ((arc,), [(0, 1, 0, 1), listed(arc)]):
                    self.raised(Refused, "value", arcs, call, 2, arcs, *rest)
            for value in any_values():
                if value not in ((), []):
                    self.raised(Refused, "value", value, call, 2, value, *rest)
            self.raised(Refused, "value", arcs := ((0, 1, 0, 1),) * 81, call, 2, arcs, *rest)
            self.raised(Refused, "value", arcs := ((0, 1, 0, 1),), call, 1, arcs, *rest)


class Limits(Checks, unittest.TestCase):
    def test_twenty_nodes_and_eighty_arcs(self):
        random = Random(9)
        words = []
        for turn in range(40):
            arcs = []
            for at in range(80):
                # A ring through all nodes, and sixty more.
                begin, end = (at, (at + 1) % 20) if at < 20 else random.sample(range(20), 2)
                low = random.randrange(10 ** 11) if random.random() < turn / 60 else 0
                arcs.append((begin, end, low, random.randint(low, 10 ** 12)))
            random.shuffle(arcs)
            found = circulation(20, arcs)
            words.append(found[0])
            self.told(True, flow_holds(20, arcs, found))
            lowest = least(20, arcs)
            if found[0] == "cut":
                self.told(None, lowest)
                continue
            self.assertTrue(is_flow(20, arcs, lowest))
            self.assertLessEqual(lowest, found[1])
            # Told values are the least ones if no earlier value can go below with those ahead of it kept.
            for at in random.sample(range(80), 6):
                if lowest[at] > arcs[at][2]:
                    begin, end, low, _ = arcs[at]
                    fixed = [(*arc[:2], x, x) for arc, x in zip(arcs[:at], lowest)]
                    bent = fixed + [(begin, end, low, lowest[at] - 1)] + list(arcs[at + 1:])
                    self.assertEqual(circulation(20, bent)[0], "cut")
        self.assertEqual(set(words), {"flow", "cut"})

    def test_great_numbers(self):
        most = 10 ** 12
        self.told(("flow", (most, most)), circulation(2, [(0, 1, most, most), (1, 0, 0, most)]))
        self.told((0, most, most), least(2, [(0, 1, 0, most), (0, 1, 0, most), (1, 0, most, most)]))
        self.told(("cut", (1,)), circulation(2, [(0, 1, most, most), (1, 0, 0, most - 1)]))


if __name__ == "__main__":
    unittest.main()
