"""Tables of machines with few states, against searches over all states; and that the search tells likewise."""

import unittest

from everycycle.bounded import Broken, is_break
from everycycle.clauses import Machine
from everycycle.frames import Frames, begun, next_frames
from everycycle.graphs import Graph
from everycycle.judge import Kept, is_kept
from everycycle.questions import Questions
from everycycle.tables import MOST_INPUTS, MOST_REGISTERS, Table, bit_masks, is_small, literal_masks
from tests.fixed import Rule
from tests.nets import all_bits, some_graph, value_of
from tests.test_frames import breaks_in, is_in, some_machines, ways_past
from tests.walks import doubled, least_cycles, many_machines, plain_machines, table_of


def number_of(state):
    return sum(bit << n for n, bit in enumerate(state))


def bare(inputs, registers):
    """A machine that stays where it is."""
    leaves = range(inputs + 1, inputs + registers + 1)
    return Machine(Graph(inputs + registers, ()), inputs, (0,) * registers, tuple(2 * n for n in leaves), 1)


class Masks(unittest.TestCase):
    def test_small_machines(self):
        self.assertEqual((MOST_REGISTERS >= 10, MOST_INPUTS >= 6), (True, True))
        for inputs, registers, told in ((0, 0, True), (MOST_INPUTS, MOST_REGISTERS, True), (MOST_INPUTS + 1, 0, False),
                                        (0, MOST_REGISTERS + 1, False), (6, 10, True), (16, 64, False)):
            self.assertIs(is_small(bare(inputs, registers)), told)

    def test_bits(self):
        for many in range(7):
            masks = bit_masks(many)
            self.assertEqual(len(masks), many)
            for n, mask in enumerate(masks):
                self.assertEqual(mask, sum(1 << number for number in range(2 ** many) if number >> n & 1))

    def test_literals(self):
        for number in range(60):
            rule = Rule(number + 10700)
            leaves = rule.pick(5)
            graph = some_graph(rule, leaves, rule.pick(12) if leaves else 0)
            masks = literal_masks(graph, bit_masks(leaves), 2 ** 2 ** leaves - 1)
            self.assertEqual(len(masks), 2 * (1 + leaves + len(graph.gates)))
            for literal, mask in enumerate(masks):
                wanted = [1 << number_of(bits) for bits in all_bits(leaves) if value_of(graph, bits, literal)]
                self.assertEqual(mask, sum(wanted))


class Tables(unittest.TestCase):
    def test_sets_breaks_and_ways(self):
        """What comes into the levels, and what is told of them."""
        counts = [0, 0, 0]
        for number, machine in enumerate((*many_machines(80, 10800), *plain_machines()[::2], doubled())):
            rule, known = Rule(number), table_of(machine)
            table, search, levels = Table(machine), Questions(machine, ()), [[]]
            for _ in range(12):
                self.change(rule, machine, (table, search), levels)
                i = rule.pick(len(levels))
                clauses = None if i == 0 else [clause for level in levels[i:] for clause in level]
                inside = [number_of(state) for state in known if is_in(machine, clauses, state)]
                self.assertEqual(table.sets[i], sum(1 << n for n in inside))
                self.hold(breaks_in(machine, known, clauses), table.break_from(i), search.break_from(i))
                clause = self.clause(rule, machine)
                wanted = ways_past(machine, known, clauses, clause)
                one, other = table.way_out(i, clause), search.way_out(i, clause)
                self.hold(wanted, one[0], other[0])
                self.assertEqual((one[1] is None, other[1] is None), (bool(wanted), bool(wanted)))
                counts[bool(wanted)] += 1
                if not wanted:
                    self.hold_part(machine, known, clauses, clause, one[1])
                    self.hold_part(machine, known, clauses, clause, other[1])
                    counts[2] += len(other[1]) < len(clause)
        self.assertTrue(all(many > 50 for many in counts), counts)

    def clause(self, rule, machine):
        return tuple(n * rule.one_of((1, -1)) for n in range(1, len(machine.resets) + 1) if rule.pick(2))

    def change(self, rule, machine, asked, levels):
        """A level more, a clause more, or a clause that goes up."""
        i = rule.pick(len(levels))
        if rule.pick(3) == 0:
            levels.append([])
            for questions in asked:
                questions.put_level()
        elif i > 0 and rule.pick(2):
            clause = self.clause(rule, machine)
            levels[i].append(clause)
            for questions in asked:
                questions.put_clause(i, clause)
        elif 0 < i < len(levels) - 1 and levels[i]:
            clause = rule.one_of(levels[i])
            levels[i] = [other for other in levels[i] if other != clause]
            levels[i + 1].append(clause)
            for questions in asked:
                questions.lift_clause(i, clause)

    def hold(self, wanted, *pairs):
        for pair in pairs:
            if wanted:
                self.assertIn(pair, wanted)
            else:
                self.assertIsNone(pair)

    def hold_part(self, machine, known, clauses, clause, part):
        """Behind each cycle from the set and the clause one of the part's literals must be true."""
        self.assertEqual([n for n in clause if n in part], list(part))
        for state in known:
            if is_in(machine, clauses, state) and is_in(machine, (clause,), state):
                for later, _ in known[state].values():
                    self.assertTrue(is_in(machine, (part,), later))


class Answers(unittest.TestCase):
    def test_both_settle(self):
        broken = kept = 0
        for machine in some_machines(10900, 100):
            least = least_cycles(machine, table_of(machine))
            for questions in (Table(machine), Questions(machine, ())):
                told = begun(machine)
                while isinstance(told, Frames):
                    told = next_frames(questions, told)
                if least is None:
                    self.assertIs(told.__class__, Kept)
                    self.assertIs(is_kept(machine, told), True)
                    kept += 1
                else:
                    self.assertIs(told.__class__, Broken)
                    self.assertEqual((len(told.rows), is_break(machine, told.rows)), (least, True))
                    broken += 1
        self.assertTrue(broken > 50 and kept > 50, (broken, kept))


if __name__ == "__main__":
    unittest.main()
