"""What is as large as [50], [54] and [66] let callers pass, or somewhat larger, is handled."""

import time
import unittest

from everycycle.bits import machine_of
from everycycle.bounded import FirstBreak, NoBreak, cut_out, first_break, is_first_break
from everycycle.clauses import Machine
from everycycle.flats import flat
from everycycle.graphs import Builder, or_of, xor_of
from everycycle.judge import Kept, against, against_wish, is_kept, lessened
from everycycle.lines import is_refutation
from everycycle.steps import KeptBySteps, OpenSteps, by_steps, is_by_steps
from everycycle.texts import design_of
from tests.fixed import Rule
from tests.test_judge import kept_with, not_clause
from tests.test_sizes_solver import COUNTER, least_break
from tests.walks import counter

LOCK = """
module lock
  input key: 6
  reg at: 4 = 0
  reg seen: 4 = 3
  wire good: 1 = key == ({at, 2#1} ^ {2#0, seen})
  next at = if good then at + 4#1 else 4#0
  next seen = if good then seen * 4#5 + 4#3 else 4#3
  output w: 1 = at < 4#14
end
"""
PRODUCTS = """
module products
  input a: 3
  input b: 3
  reg x: 4 = 0
  reg y: 4 = 0
  wire p: 4 = {1#0, a} * {1#0, b} * x
  wire q: 4 = {1#0, b} * x * {1#0, a}
  next x = p + x + 4#1
  next y = q + y + 4#1
  output w: 1 = x == y
end
"""
SQUARES = """
module squares
  input a: 3
  input b: 3
  reg x: 8 = 1
  next x = if a[0] then x * {5#0, a} else x * x * {4#0, b, 1#1} * x
  output w: 1 = x[0]
end
"""


def told_machine(text):
    design = flat(design_of(text))
    return machine_of(design, design[0][2][-1][1])


def net_machine(rule, inputs, registers, gates):
    """A machine of a net made by the rule, each gate over ones that are near."""
    builder = Builder(inputs + registers)
    literals = [2 * n + rule.pick(2) for n in range(1, inputs + registers + 1)]
    while len(builder.gates) < gates:
        one, other = (literals[-1 - rule.pick(min(30, len(literals)))] for _ in range(2))
        made = rule.one_of((xor_of, or_of, Builder.and_of))(builder, one, other ^ rule.pick(2))
        literals.append(2 + 2 * rule.pick(inputs + registers) if made < 2 or made in literals else made)
    nexts = [literals[-1 - rule.pick(min(30, len(literals)))] for _ in range(registers)]
    wish = or_of(builder, or_of(builder, literals[-1], literals[-2]), or_of(builder, literals[-3], literals[-4]))
    return Machine(builder.graph(), inputs, [rule.pick(2) for _ in nexts], nexts, wish)


class InTime(unittest.TestCase):
    def timed(self, seconds, call, *args):
        """What a call tells, which must take a second or so, on slow machines, too, some seconds."""
        start = time.perf_counter()
        told = call(*args)
        self.assertLess(time.perf_counter() - start, seconds)
        return told

    def first(self, machine, most, least):
        told = self.timed(60, first_break, machine, most)
        self.assertIs(told.__class__, NoBreak if least is None else FirstBreak)
        if least is not None:
            self.assertEqual(len(told.rows), least)
            self.assertEqual(cut_out(machine, told.rows), told.rows)
        self.assertIs(self.timed(60, is_first_break, machine, most, told), True)

    def test_sixteen_cycles(self):
        for text, least in ((LOCK, 15), (PRODUCTS, None), (SQUARES, None), (COUNTER, 15)):
            machine = told_machine(text)
            if text == COUNTER:
                least = least_break(machine, 16)
                self.assertGreater(least, 8)
            self.first(machine, 16, least)

    def test_small_ones_go_far(self):
        self.first(counter(4, 0, 15, 15, 1), 20, 16)
        self.first(counter(4, 0, 14, 15, 1), 20, None)

    def test_nets(self):
        found = 0
        for number in range(12):
            machine = net_machine(Rule(number + 7300), 6, 8, 390)
            least = least_break(machine, 3)
            told = self.timed(60, first_break, machine, 16)
            self.assertIs(is_first_break(machine, 16, told), True)
            if least is not None:
                self.assertEqual(len(told.rows), least)
                found += 1
            for k in (0, 4):
                self.assertIs(is_by_steps(machine, k, self.timed(60, by_steps, machine, k)), True)
        self.assertGreater(found, 1)

    def test_steps(self):
        for text, kinds in ((LOCK, (OpenSteps,) * 3), (PRODUCTS, (OpenSteps, KeptBySteps, KeptBySteps)),
                            (SQUARES, (OpenSteps, KeptBySteps, KeptBySteps))):
            machine = told_machine(text)
            for k, kind in zip((0, 1, 4), kinds):
                told = self.timed(60, by_steps, machine, k)
                self.assertIs(told.__class__, kind)
                self.assertIs(self.timed(60, is_by_steps, machine, k, told), True)
        machine = counter(3, 0, 1, 7, 2)
        for k in range(9):
            told = self.timed(60, by_steps, machine, k)
            self.assertIs(told.__class__, OpenSteps if k < 6 else KeptBySteps)
            self.assertIs(is_by_steps(machine, k, told), True)

    def test_certificates_of_many_clauses(self):
        counting = counter(8, 0, 99, 200)
        kept = kept_with(counting, [not_clause(tuple(n >> k & 1 for k in range(8))) for n in range(100, 256)])
        self.assertEqual(len(kept.clauses), 156)
        self.assertIs(self.timed(60, is_kept, counting, kept), True)
        less = self.timed(60, lessened, counting, kept)
        self.assertIs(is_kept(counting, less), True)
        self.assertLessEqual(len(less.clauses), len(kept.clauses))

    def test_long_papers(self):
        machine = told_machine(PRODUCTS)
        alike = [clause for n in range(1, 5) for clause in ((-n, n + 4), (n, -n - 4))]
        kept = self.timed(60, kept_with, machine, alike)
        self.assertIs(self.timed(60, is_kept, machine, kept), True)
        self.assertGreater(max(len(paper) for paper in kept.papers), 300)
        less = self.timed(60, lessened, machine, Kept(kept.clauses, kept.papers))
        self.assertIs(is_kept(machine, less), True)
        self.assertIs(is_refutation((), kept.papers[0], against(machine, alike[0])), False)
        self.assertEqual(len(against_wish(machine)), 1)


if __name__ == "__main__":
    unittest.main()
