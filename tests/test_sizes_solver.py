"""What is as large as [25], [35], [40], [45] and [50] let callers pass, or somewhat larger, is handled."""

import time
import unittest

from everycycle.bits import (
    difference, expression_word, is_below, is_equal, machine_of, number_word, product, summed,
)
from everycycle.clauses import Machine, breaks, clause_of, clauses_of, played, unrolled
from everycycle.graphs import Builder, cone, node_values, or_of, xor_of
from everycycle.lines import drawn, is_refutation, line_clauses, roots_of
from everycycle.solver import Barred, Found, is_solved, solve
from everycycle.texts import design_of
from tests.fixed import Rule
from tests.nets import worth
from tests.riddles import parities, pigeons
from tests.test_lines import some_clauses
from tests.test_runs import some_rows


def word(first, width):
    return tuple(range(2 * first, 2 * (first + width), 2))


def question(builder, literal, *assumed):
    """The triple (variables, clauses, assumed) whether a literal can be 1."""
    graph, (literal,) = cone(builder.graph(), (literal,))
    clause = clause_of((literal,))
    return graph.leaves + len(graph.gates), (*clauses_of(graph), *([] if clause is None else [clause])), assumed


class InTime(unittest.TestCase):
    def hold(self, many, clauses, assumed, kind, seconds=20):
        """It must be solved in a second or so, on slow machines, too, in some seconds; tells what is told."""
        start = time.perf_counter()
        told = solve(many, clauses, assumed)
        self.assertLess(time.perf_counter() - start, seconds)
        self.assertIs(told.__class__, kind)
        self.assertIs(is_solved(many, clauses, assumed, told), True)
        return told

    def test_twelve_variables_and_sixty_clauses(self):
        for number in range(30):
            clauses = some_clauses(Rule(number + 3600), 12, 60)
            self.assertIs(is_solved(12, clauses, (), solve(12, clauses)), True)
        self.hold(*pigeons(4, 3), (), Barred)
        self.hold(*parities(12, 5), (), Barred)

    def test_sums_in_any_order(self):
        builder = Builder(15)
        a, b, c = word(1, 5), word(6, 5), word(11, 5)
        one = summed(builder, summed(builder, a, b, 0)[0], c, 0)[0]
        other = summed(builder, a, summed(builder, c, b, 0)[0], 0)[0]
        self.hold(*question(builder, is_equal(builder, one, other) ^ 1), Barred)

    def test_products(self):
        builder = Builder(16)
        a, b = word(1, 8), word(9, 8)
        whole = product(builder, a + (0,) * 8, b + (0,) * 8)
        for number, kind in ((251 * 241, Found), (65521, Barred), (143 * 254, Found)):
            literal = builder.and_of(is_equal(builder, whole, number_word(16, number)), is_below(builder, number_word(8, 1), a))
            many, clauses, assumed = question(builder, builder.and_of(literal, is_below(builder, number_word(8, 1), b)))
            self.assertGreater(many, 400)
            told = self.hold(many, clauses, assumed, kind)
            if kind is Found:
                one, other = told.assignment[:8], told.assignment[8:16]
                value = [sum(bit << k for k, bit in enumerate(bits)) for bits in (one, other)]
                self.assertEqual(value[0] * value[1], number)

    def test_products_in_either_order(self):
        for width in (3, 4, 5, 6):
            builder = Builder(2 * width)
            a, b = word(1, width), word(width + 1, width)
            literal = is_equal(builder, product(builder, a, b), product(builder, b, a))
            self.hold(*question(builder, literal ^ 1), Barred)

    def test_nets_of_400_gates(self):
        found = barred = 0
        for number in range(30):
            rule = Rule(number + 3700)
            builder = Builder(16)
            literals = [2 * n + rule.pick(2) for n in range(1, 17)]
            while len(builder.graph().gates) < 400:
                one, other = (literals[-1 - rule.pick(min(30, len(literals)))] for _ in range(2))
                literals.append(rule.one_of((xor_of, or_of, Builder.and_of))(builder, one, other ^ rule.pick(2)))
            many, clauses, _ = question(builder, builder.and_of(literals[-1], literals[-2] ^ 1))
            assumed = tuple(n * rule.one_of((1, -1)) for n in range(1, 17) if rule.pick(4) == 0)
            told = solve(many, clauses, assumed)
            self.assertIs(is_solved(many, clauses, assumed, told), True)
            found, barred = found + (told.__class__ is Found), barred + (told.__class__ is Barred)
        self.assertTrue(found > 3 and barred > 3, (found, barred))

    def test_2000_lines(self):
        for many in (5, 6):
            variables, clauses = pigeons(many + 1, many)
            lines = self.hold(variables, clauses, (), Barred).lines
            self.assertEqual(line_clauses(clauses, lines)[-1], ())
            self.assertEqual(roots_of(clauses, lines), tuple(range(len(clauses))))
            self.assertIs(is_refutation(clauses, drawn(clauses, lines)), True)
        chain = [(1,), *[(-n, n + 1) for n in range(1, 2000)], (-2000,)]
        lines = [("given", n) for n in range(2001)]
        for n in range(1, 2001):
            lines.append(("chain", len(lines) - 1 if n > 1 else 0, ((n, n),)))
        self.assertIs(is_refutation(chain, tuple(lines)), True)
        self.assertEqual(len(drawn(chain, tuple(lines))), 4001)
        self.hold(2000, chain, (), Barred)
        self.hold(2000, chain[1:-1], (1, -2000), Barred)
        self.hold(2000, chain[:-1], (2000,), Found)


COUNTER = """
module counter
  input on: 1
  input add: 3
  reg low: 4 = 0
  reg high: 4 = 0
  reg seen: 1 = 0
  wire sum: 5 = {1#0, low} + {2#0, add}
  next low = if on then sum[3:0] else low
  next high = if on & sum[4] then high * 4#3 + 4#1 else high
  next seen = seen | high == 4#13
  output good: 1 = ~(seen & high == 4#8 & low < 4#3)
end
"""


class Cycles(unittest.TestCase):
    def test_sixteen_cycles(self):
        """[50]: lots of unrolled machines."""
        machine = machine_of(design_of(COUNTER), "good")
        self.assertLess(len(machine.graph.gates), 400)
        least = None
        for cycles in range(1, 17):
            told = unrolled(machine, cycles, False)
            clause = clause_of((told.wishes[-1] ^ 1,))
            clauses = (*clauses_of(told.graph), *([] if clause is None else [clause]))
            many = told.graph.leaves + len(told.graph.gates)
            answer = solve(many, clauses)
            self.assertIs(is_solved(many, clauses, (), answer), True)
            if isinstance(answer, Found) and least is None:
                least = cycles
                bits = answer.assignment
                self.assertIs(breaks(machine, [bits[4 * k:4 * k + 4] for k in range(cycles)]), True)
        self.assertEqual(least, least_break(machine, 16))
        self.assertGreater(least, 8)

    def test_20000_gates_in_a_row(self):
        rule = Rule(9)
        builder = Builder(80)
        literals = list(range(2, 162))
        while len(builder.graph().gates) < 2000:
            one, other = (literals[-1 - rule.pick(200) % len(literals)] for _ in range(2))
            literals.append(rule.one_of((xor_of, or_of, Builder.and_of))(builder, one, other))
        machine = Machine(builder.graph(), 16, (0, 1) * 32, literals[-64:], literals[-65])
        for free in (False, True):
            told = unrolled(machine, 11, free)
            bits = [rule.pick(2) for _ in range(told.graph.leaves)]
            rest = bits[64:] if free else bits
            start = Machine(machine.graph, 16, bits[:64] if free else machine.resets, machine.nexts, machine.wish)
            found = node_values(told.graph, bits)
            plays = played(start, [rest[k * 16:k * 16 + 16] for k in range(11)])
            self.assertEqual([worth(found, literal) for literal in told.wishes], [wish for _, wish in plays])
            self.assertEqual([tuple(worth(found, literal) for literal in row) for row in told.states[:-1]],
                             [state for state, _ in plays])
        self.assertGreater(len(clauses_of(told.graph)), 20000)

    def test_wide_words(self):
        builder = Builder(128)
        a, b = word(1, 64), word(65, 64)
        told = [summed(builder, a, b, 0)[0], difference(builder, a, b), product(builder, a[:24], b[:24]), (is_below(builder, a, b),)]
        rule = Rule(10)
        for _ in range(3):
            bits = [rule.pick(2) for _ in range(128)]
            found = node_values(builder.graph(), bits)
            x, y = (sum(bit << k for k, bit in enumerate(part)) for part in (bits[:64], bits[64:]))
            wanted = [(x + y) % 2 ** 64, (x - y) % 2 ** 64, x * y % 2 ** 24, int(x < y)]
            self.assertEqual([sum(worth(found, literal) << k for k, literal in enumerate(part)) for part in told], wanted)
        whole = ("name", "a")
        for k in range(300):
            whole = ("plus" if k % 2 else "xor", whole, ("name", "a"))
        self.assertEqual(len(expression_word(Builder(4), whole, {"a": word(1, 4)})), 4)

    def test_long_plays(self):
        design = design_of(COUNTER)
        machine = machine_of(design, "good")
        rows = [[row[0], *[row[1] >> k & 1 for k in range(3)]] for row in some_rows(design, Rule(11), 500)]
        self.assertEqual(len(played(machine, rows)), 500)


def least_break(machine, most):
    """The number of cycles of a least break, by all states; None if there is none of at most so many."""
    states = {machine.resets}
    rows = [tuple(n >> k & 1 for k in range(machine.inputs)) for n in range(2 ** machine.inputs)]
    for cycles in range(1, most + 1):
        behind = set()
        for state in states:
            for row in rows:
                found = node_values(machine.graph, (*row, *state))
                if worth(found, machine.wish) == 0:
                    return cycles
                behind.add(tuple(worth(found, literal) for literal in machine.nexts))
        states = behind
    return None


if __name__ == "__main__":
    unittest.main()
