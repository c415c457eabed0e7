"""[24], [31], [32]: machines, what they play, and those of flat designs."""

import unittest

from everycycle.bits import machine_of, number_bits, word_number
from everycycle.clauses import Machine, breaks, played
from everycycle.cycles import run
from everycycle.errors import BadNumber, BadRow, BadWidth, NoName
from everycycle.flats import flat
from everycycle.graphs import Graph
from everycycle.texts import design_of
from tests.anything import anything, placed
from tests.asking import Asking
from tests.circuits import NESTED, WRITES
from tests.fixed import Rule
from tests.meaning import small_design
from tests.narrow import flat_design
from tests.nets import all_bits, some_graph, value_of
from tests.test_graphs import is_int, is_row
from tests.test_runs import some_rows

# Two inputs, two registers: the first one takes a and b, the second one turns; the wish is that not both are 1.
GRAPH = Graph(4, ((2, 4), (6, 8)))
ARGUMENTS = (GRAPH, 2, (0, 1), (10, 9), 13)


def some_machine(rule, most_inputs=3, most_registers=3, gates=10):
    """A machine made by a rule."""
    inputs, registers = rule.pick(most_inputs + 1), rule.pick(most_registers + 1)
    graph = some_graph(rule, inputs + registers, rule.pick(gates))
    many = 2 * (1 + graph.leaves + len(graph.gates))
    nexts = tuple(rule.pick(many) for _ in range(registers))
    return Machine(graph, inputs, tuple(rule.pick(2) for _ in nexts), nexts, rule.pick(many))


def told_played(machine, rows):
    """What played must tell, by going back from the literals."""
    state, told = machine.resets, []
    for row in rows:
        bits = (*row, *state)
        told.append((state, value_of(machine.graph, bits, machine.wish)))
        state = tuple(value_of(machine.graph, bits, literal) for literal in machine.nexts)
    return tuple(told)


class Machines(Asking, unittest.TestCase):
    def test_attributes(self):
        for resets, nexts in (((0, 1), (10, 9)), ([0, 1], [10, 9])):
            machine = Machine(GRAPH, 2, resets, nexts, 13)
            self.assertEqual((machine.graph, machine.inputs, machine.resets, machine.nexts, machine.wish), ARGUMENTS)
            self.assertIs(machine.graph, GRAPH)
            self.assertEqual((machine.resets.__class__, machine.nexts.__class__), (tuple, tuple))
        machine = Machine(Graph(0, ()), 0, [], (), 1)
        self.assertEqual((machine.resets, machine.nexts), ((), ()))

    def test_a_list_changed_later_changes_nothing(self):
        resets, nexts = [0, 1], [10, 9]
        machine = Machine(GRAPH, 2, resets, nexts, 13)
        resets[0] = 1
        nexts.append(7)
        self.assertEqual(machine, Machine(*ARGUMENTS))

    def test_equal(self):
        machine = Machine(*ARGUMENTS)
        self.assertTrue(machine == machine)
        self.assertTrue(machine == Machine(Graph(4, [[2, 4], [6, 8]]), 2, [0, 1], [10, 9], 13))
        self.assertFalse(machine != Machine(*ARGUMENTS))
        others = (
            Machine(Graph(4, ((2, 4), (8, 6))), 2, (0, 1), (10, 9), 13), Machine(GRAPH, 2, (0, 0), (10, 9), 13),
            Machine(GRAPH, 2, (0, 1), (10, 8), 13), Machine(GRAPH, 2, (0, 1), (10, 9), 12),
            Machine(GRAPH, 3, (0,), (10,), 13), Machine(GRAPH, 4, (), (), 13), GRAPH, ARGUMENTS, None,
        )
        for other in others:
            self.assertFalse(machine == other)
            self.assertTrue(machine != other)
        self.assertFalse(Machine(GRAPH, 4, (), (), 13) == Machine(GRAPH, 4, (), (), 12))

    def test_wrong_values_one_by_one(self):
        for inputs in (-1, 5, True, None, "2", 2.0, (2,)):
            self.assertFails(BadNumber, {"what": "inputs", "number": inputs}, Machine, GRAPH, inputs, None, None, None)
        for resets in ((), (0,), (0, 1, 0), (0, 2), (0, True), (0, None), 0, None, "01", {0: 0, 1: 1}):
            self.assertFails(BadRow, {"row": resets}, Machine, GRAPH, 2, resets, None, None)
        for nexts in ((), (10,), (10, 9, 8), (10, 14), (10, -1), (10, True), (10, "9"), 9, None, {10: 1, 9: 1}):
            self.assertFails(BadRow, {"row": nexts}, Machine, GRAPH, 2, (0, 1), nexts, None)
        for wish in (14, -1, True, None, "13", 13.0, (13,)):
            self.assertFails(BadNumber, {"what": "wish", "number": wish}, Machine, GRAPH, 2, (0, 1), (10, 9), wish)
        self.assertFails(BadRow, {"row": (0, 1)}, Machine, GRAPH, 3, (0, 1), (10, 9), 13)

    def test_anything_in_each_place(self):
        for value in anything():
            if not is_int(value, 0, 4):
                self.assertFails(BadNumber, {"what": "inputs", "number": value}, Machine, GRAPH, value, value, value, value)
            for resets in (value, (0, value), [value, 1]):
                if not (is_row(resets) and len(resets) == 2 and all(is_int(bit, 0, 1) for bit in resets)):
                    self.assertFails(BadRow, {"row": resets}, Machine, GRAPH, 2, resets, value, value)
            for nexts in (value, (0, value), [value, 1]):
                if not (is_row(nexts) and len(nexts) == 2 and all(is_int(part, 0, 13) for part in nexts)):
                    self.assertFails(BadRow, {"row": nexts}, Machine, GRAPH, 2, (0, 1), nexts, value)
            if is_int(value, 0, 13):
                self.assertEqual(Machine(GRAPH, 2, (0, 1), (10, 9), value).wish, value)
            else:
                self.assertFails(BadNumber, {"what": "wish", "number": value}, Machine, GRAPH, 2, (0, 1), (10, 9), value)


class Plays(Asking, unittest.TestCase):
    def test_by_hand(self):
        machine = Machine(*ARGUMENTS)
        rows = ((1, 1), (1, 0), (1, 1), (0, 0))
        self.assertEqual(played(machine, rows), (((0, 1), 1), ((1, 0), 1), ((0, 1), 1), ((1, 0), 1)))
        self.assertEqual(played(machine, [[0, 0], [1, 1], [0, 0]]), (((0, 1), 1), ((0, 0), 1), ((1, 1), 0)))
        self.assertEqual(played(machine, ()), ())
        self.assertEqual(played(machine, []), ())

    def test_breaks_by_hand(self):
        machine = Machine(*ARGUMENTS)
        for rows, told in (((), False), ([], False), (((0, 0),), False), (((0, 0), (1, 1)), False),
                           (((0, 0), (1, 1), (0, 0)), True), ([[0, 0], [1, 1], [0, 0]], True),
                           (((0, 0), (1, 1), (1, 1), (1, 1)), False), (((0, 0), (1, 1), (1, 1), (1, 1), (0, 0)), False)):
            self.assertIs(breaks(machine, rows), told)
        never = Machine(GRAPH, 2, (0, 1), (10, 9), 0)
        self.assertIs(breaks(never, ((0, 0),)), True)
        self.assertIs(breaks(never, ((0, 0), (0, 0))), False)

    def test_against_the_gates(self):
        for number in range(80):
            rule = Rule(number + 1500)
            machine = some_machine(rule)
            rows = tuple(tuple(rule.pick(2) for _ in range(machine.inputs)) for _ in range(rule.pick(7)))
            told = told_played(machine, rows)
            self.assertEqual(played(machine, rows), told)
            self.assertEqual(played(machine, [list(row) for row in rows]), told)
            wishes = [wish for _, wish in told]
            self.assertIs(breaks(machine, rows), wishes[-1:] == [0] and wishes.count(0) == 1)

    def test_wrong_rows(self):
        machine = Machine(*ARGUMENTS)
        rows = ((0, 1), (1, 1))
        for value in anything():
            for wrong in (value, placed(rows, 0, value), placed(rows, 1, value), [(0, value)], (*rows, value)):
                if is_row(wrong) and all(is_row(row) and len(row) == 2 and all(is_int(bit, 0, 1) for bit in row) for row in wrong):
                    self.assertEqual(len(played(machine, wrong)), len(wrong))
                else:
                    self.assertFails(BadRow, {"row": wrong}, played, machine, wrong)
                    self.assertFails(BadRow, {"row": wrong}, breaks, machine, wrong)
        for wrong in (((0,),), ((0, 1), (0, 1, 1)), ((0, 2),), ((0, True),), (0, 1)):
            self.assertFails(BadRow, {"row": wrong}, played, machine, wrong)
            self.assertFails(BadRow, {"row": wrong}, breaks, machine, wrong)


def names_of_one_bit(design):
    return [item[1] for item in design[0][2] if item[0] in ("input", "reg", "wire", "output") and item[2] == 1]


class OfDesigns(Asking, unittest.TestCase):
    def hold(self, design, wish, rows):
        """The machine of a flat design must play as the design runs."""
        items = design[0][2]
        inputs, regs = ([item for item in items if item[0] == kind] for kind in ("input", "reg"))
        machine = machine_of(design, wish)
        self.assertEqual(machine.inputs, sum(item[2] for item in inputs))
        self.assertEqual(machine.graph.leaves, sum(item[2] for item in (*inputs, *regs)))
        self.assertEqual(machine.resets, tuple(bit for item in regs for bit in number_bits(item[2], item[3])))
        bits = [[bit for item, word in zip(inputs, row) for bit in number_bits(item[2], word)] for row in rows]
        told = played(machine, bits)
        self.assertEqual(len(told), len(rows))
        for (state, signals), (bits, value), row in zip(run(design, rows), told, rows):
            self.assertEqual(bits, tuple(bit for item, word in zip(regs, state) for bit in number_bits(item[2], word)))
            words = dict(signals)
            words.update({item[1]: word for item, word in zip(inputs, row)})
            words.update({item[1]: word for item, word in zip(regs, state)})
            self.assertEqual(value, words[wish])

    def test_by_hand(self):
        design = design_of("module m\ninput a: 2\ninput b: 1\nreg r: 3 = 5\nreg s: 1 = 1\nwire w: 1 = a[1] & s\n"
                           "next r = r + {1#0, a}\noutput o: 1 = r == 3#7\nend\n")
        machine = machine_of(design, "o")
        self.assertEqual((machine.inputs, machine.graph.leaves), (3, 7))
        self.assertEqual(machine.resets, (1, 0, 1, 1))
        self.assertEqual(machine.nexts[3], 14)
        self.assertEqual(machine_of(design, "b").wish, 6)
        self.assertEqual(machine_of(design, "s").wish, 14)
        rows = ((0, 0), (0, 1), (1, 0), (0, 0), (0, 0), (0, 0))
        self.assertEqual(played(machine, rows and [(a, b, 0) for a, b in rows]), (
            ((1, 0, 1, 1), 0), ((1, 0, 1, 1), 0), ((1, 1, 1, 1), 1), ((0, 0, 0, 1), 0), ((0, 0, 0, 1), 0), ((0, 0, 0, 1), 0)))

    def test_all_rows_of_short_ones(self):
        for number in range(60):
            design = flat_design(Rule(number + 1700), 2, 3)
            widths = [item[2] for item in design[0][2] if item[0] == "input"]
            rows = [tuple(word_number(bits[sum(widths[:k]):sum(widths[:k + 1])]) for k in range(len(widths)))
                    for bits in all_bits(sum(widths))]
            for wish in names_of_one_bit(design):
                self.hold(design, wish, tuple(rows + rows[::-1]))

    def test_each_kind_of_name(self):
        kinds = {}
        for number in range(150):
            rule = Rule(number + 1800)
            design = flat_design(rule)
            for wish in names_of_one_bit(design):
                self.hold(design, wish, some_rows(design, rule, 5))
                kind = [item[0] for item in design[0][2] if item[1] == wish][0]
                kinds[kind] = kinds.get(kind, 0) + 1
        self.assertTrue(all(kinds[kind] > 20 for kind in ("input", "reg", "wire", "output")), kinds)

    def test_of_designs_with_uses_and_memories(self):
        for design in (NESTED, WRITES):
            whole = flat(design)
            for wish in names_of_one_bit(whole):
                self.hold(whole, wish, some_rows(whole, Rule(4), 20))
        many = 0
        for number in range(120):
            whole = flat(small_design(number, 3))
            names = names_of_one_bit(whole)
            if names and not any(has_wide_product(item) for item in whole[0][2]):
                self.hold(whole, Rule(number).one_of(names), some_rows(whole, Rule(number + 1), 4))
                many += 1
        self.assertGreater(many, 40)

    def test_wrong_wishes(self):
        whole = flat(NESTED)
        for wish in ("p", "x.", "", "p.m", "m.0", "top", "next", "p.m.2", "p.one"):
            self.assertFails(NoName, {"name": wish}, machine_of, whole, wish)
        for value in anything():
            self.assertFails(NoName, {"name": value}, machine_of, whole, value)
        for wish, width in (("x", 2), ("p.m.0", 2), ("p.one.count", 3), ("p.both", 2), ("p.seen", 2)):
            self.assertFails(BadWidth, {"name": wish, "wanted": 1, "told": width}, machine_of, whole, wish)


def has_wide_product(item):
    """Whether an item of a flat design has a product, which is a big circuit, of wide words somewhere."""
    waiting = [item]
    while waiting:
        part = waiting.pop()
        if isinstance(part, tuple):
            if part[:1] == ("times",):
                return True
            waiting.extend(part)
    return False


if __name__ == "__main__":
    unittest.main()
