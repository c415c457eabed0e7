"""What is as large as [15], [20] and [30] let callers pass, or somewhat larger, is handled."""

import unittest

from everycycle.cycles import cycle, reset_of, run, run_from, state_behind
from everycycle.designs import check
from everycycle.flats import deep_state, flat, flat_state
from everycycle.graphs import Builder, Graph, cone, node_values, plain, put_into, sure_values, with_known, xor_of
from everycycle.texts import design_of
from tests.fixed import Rule
from tests.nets import some_graph, some_literals
from tests.plainly import inputs_of, plain_cycle
from tests.test_runs import some_rows

BANK = """
module cell
  input on: 1
  input at: 3
  input word: 8
  memory m: 8 by 3
  memory index: 3 by 3
  write m[index[at]] = word + m[at] when on
  write index[at] = word[2:0] when ~on
  reg last: 8 = 255
  next last = m[index[index[at]]] ^ last
  output out: 8 = last
end
module row
  input at: 3
  input word: 8
  use one: cell(on = word[0], at = at, word = word)
  use two: cell(on = word[1], at = at + 3#1, word = one.out)
  use three: cell(on = word[2], at = at * 3#3, word = one.out * two.out)
  output out: 8 = one.out + two.out + three.out
end
module top
  input at: 3
  input word: 8
  use low: row(at = at, word = word)
  use high: row(at = ~at, word = word ^ low.out)
  output out: 8 = low.out | high.out
end
"""


class Designs(unittest.TestCase):
    def test_60_cycles_of_many_memories(self):
        design = design_of(BANK)
        check(design)
        rows = some_rows(design, Rule(1), 60)
        whole = flat(design)
        self.assertGreater(len(whole[0][2]), 230)
        check(whole)
        told, other = run(design, rows), run(whole, rows)
        self.assertEqual([flat_state(design, state) for state, _ in told], [state for state, _ in other])
        self.assertEqual([signals for _, signals in told], [signals for _, signals in other])
        self.assertEqual(len({state for state, _ in told}), 60)
        state = reset_of(design, "top")
        for row, (now, signals) in zip(rows, told):
            self.assertEqual(now, state)
            plain_signals, state = plain_cycle(design, "top", state, row)
            self.assertEqual(signals, plain_signals)
        self.assertEqual(state_behind(design, reset_of(design, "top"), rows), state)
        self.assertEqual(deep_state(design, flat_state(design, state)), state)

    def test_a_chain_of_uses(self):
        modules = [("module", "m0", (("input", "a", 4), ("reg", "r", 4, 1), ("next", "r", ("name", "a")),
                                     ("output", "o", 4, ("plus", ("name", "r"), ("number", 4, 1)))))]
        for k in range(1, 20):
            modules.append(("module", f"m{k}", (
                ("input", "a", 4), ("use", "u", f"m{k - 1}", (("a", ("not", ("name", "a"))),)),
                ("output", "o", 4, ("port", "u", "o")))))
        design = tuple(modules)
        check(design)
        rows = tuple((k % 16,) for k in range(60))
        told, other = run(design, rows), run(flat(design), rows)
        self.assertEqual([signals for _, signals in told], [signals for _, signals in other])
        state = reset_of(design, "m19")
        self.assertEqual(deep_state(design, flat_state(design, state)), state)
        self.assertEqual(run_from(design, state, rows), told)

    def test_expressions_of_300_parts(self):
        a = ("name", "a")
        for wrap in (lambda e: ("plus", e, a), lambda e: ("plus", a, e), lambda e: ("if", ("slice", e, 0, 0), e, a)):
            whole = a
            for _ in range(149 if wrap(a)[0] == "plus" else 7):
                whole = wrap(whole)
            design = (("module", "m", (("input", "a", 8), ("output", "o", 8, whole))),)
            for word in (0, 1, 7, 255):
                self.assertEqual(cycle(design, "m", (), (word,)), plain_cycle(design, "m", (), (word,)))
                self.assertEqual(cycle(flat(design), "m", (), (word,)), plain_cycle(design, "m", (), (word,)))

    def test_a_memory_of_six_bits(self):
        design = design_of("module m\ninput a: 6\nmemory m: 64 by 6\nwrite m[a] = m[a] + 64#1 when 1#1\n"
                           "output o: 64 = m[m[a][5:0] * 6#5]\nend")
        rows = some_rows(design, Rule(2), 20)
        self.assertEqual([signals for _, signals in run(design, rows)], [signals for _, signals in run(flat(design), rows)])
        self.assertEqual(inputs_of(design, "m", Rule(2)), rows[0])


class Graphs(unittest.TestCase):
    def test_5000_nodes(self):
        rule = Rule(3)
        graph = some_graph(rule, 40, 6000)
        literals = some_literals(rule, graph, 50)
        bits = [rule.pick(2) for _ in range(40)]
        found = node_values(graph, bits)
        self.assertEqual(sure_values(graph, bits), found)
        wanted = [found[literal // 2] ^ literal % 2 for literal in literals]
        known = [(leaf, bits[leaf - 1]) for leaf in range(1, 41, 2)]
        for other, places in (plain(graph, literals), cone(graph, literals), with_known(graph, literals, known)):
            values = node_values(other, bits)
            self.assertEqual([values[literal // 2] ^ literal % 2 for literal in places], wanted)
        builder = Builder(40)
        self.assertEqual(put_into(builder, graph, range(2, 82, 2), literals), plain(graph, literals)[1])

    def test_a_chain_of_5000_gates(self):
        builder = Builder(60)
        last = 2
        for k in range(1700):
            last = xor_of(builder, last, 2 * (1 + k * 7 % 60))
        graph = builder.graph()
        self.assertGreater(len(graph.gates), 5000)
        self.assertEqual(cone(graph, (last,)), (graph, (last,)))
        self.assertEqual(plain(graph, (last,)), (graph, (last,)))
        self.assertEqual(Graph(60, list(graph.gates)), graph)


if __name__ == "__main__":
    unittest.main()
