"""[28]: graphs made gate by gate."""

import unittest

from everycycle.graphs import Builder, Graph, choice_of, literal_value, node_values, or_of, put_into, xor_of
from tests.fixed import Rule
from tests.nets import all_bits, some_graph, some_literals, worth


def told_and(gates, leaves, one, other):
    """The pair (literal, gates) that and_of must tell behind these gates."""
    if one == 0 or other == 0 or one // 2 == other // 2 and one != other:
        return 0, gates
    if one == 1 or one == other:
        return other, gates
    if other == 1:
        return one, gates
    pair = (max(one, other), min(one, other))
    if pair in gates:
        return 2 * (leaves + 1 + gates.index(pair)), gates
    return 2 * (leaves + 1 + len(gates)), (*gates, pair)


class Ands(unittest.TestCase):
    def test_by_hand(self):
        builder = Builder(3)
        self.assertEqual(builder.graph(), Graph(3, ()))
        for literal in range(8):
            for one, other, told in ((0, literal, 0), (literal, 0, 0), (1, literal, literal), (literal, 1, literal),
                                     (literal, literal, literal), (literal, literal ^ 1, 0)):
                self.assertEqual(builder.and_of(one, other), told)
        self.assertEqual(builder.graph(), Graph(3, ()))
        self.assertEqual(builder.and_of(2, 4), 8)
        self.assertEqual(builder.and_of(4, 2), 8)
        self.assertEqual(builder.and_of(2, 5), 10)
        self.assertEqual(builder.and_of(8, 11), 12)
        self.assertEqual(builder.and_of(11, 8), 12)
        self.assertEqual(builder.and_of(2, 4), 8)
        self.assertEqual(builder.and_of(12, 13), 0)
        self.assertEqual(builder.graph(), Graph(3, ((4, 2), (5, 2), (11, 8))))

    def test_literal_by_literal(self):
        for number in range(40):
            rule = Rule(number + 200)
            leaves = rule.pick(5)
            builder, gates = Builder(leaves), ()
            for _ in range(60):
                many = 2 * (leaves + 1 + len(gates))
                one, other = rule.pick(many), rule.pick(many)
                told, gates = told_and(gates, leaves, one, other)
                self.assertEqual(builder.and_of(one, other), told)
                graph = builder.graph()
                self.assertEqual(graph.gates, gates)
                self.assertEqual(graph.leaves, leaves)

    def test_what_was_told_stays(self):
        builder = Builder(2)
        before = builder.graph()
        builder.and_of(2, 4)
        self.assertEqual(before, Graph(2, ()))
        self.assertEqual(builder.graph(), Graph(2, ((4, 2),)))


class Values(unittest.TestCase):
    def test_all_bits_of_three_literals(self):
        for number in range(30):
            rule = Rule(number + 300)
            builder = Builder(4)
            known = list(range(10))
            for _ in range(12):
                before = builder.graph().gates
                c, one, other = (rule.one_of(known) for _ in range(3))
                told = (builder.and_of(one, other), or_of(builder, one, other), xor_of(builder, one, other),
                        choice_of(builder, c, one, other))
                graph = builder.graph()
                self.assertEqual(graph.gates[:len(before)], before)
                for bits in all_bits(4):
                    found = node_values(graph, bits)
                    x, a, b = (worth(found, literal) for literal in (c, one, other))
                    wanted = [a & b, a | b, a ^ b, a if x == 1 else b]
                    self.assertEqual([literal_value(found, literal) for literal in told], wanted)
                known.extend(told)

    def test_all_pairs_of_two_leaves(self):
        for c in range(8):
            for one in range(8):
                for other in range(8):
                    builder = Builder(3)
                    told = (or_of(builder, one, other), xor_of(builder, one, other), choice_of(builder, c, one, other))
                    graph = builder.graph()
                    for bits in all_bits(3):
                        found = node_values(graph, bits)
                        x, a, b = (worth(found, literal) for literal in (c, one, other))
                        self.assertEqual([worth(found, literal) for literal in told], [a | b, a ^ b, a if x else b])


class PutInto(unittest.TestCase):
    def test_by_hand(self):
        graph = Graph(2, ((2, 4), (6, 3), (7, 5), (0, 2)))
        builder = Builder(3)
        told = put_into(builder, graph, (6, 4), (6, 7, 8, 10, 11, 12, 2, 5, 1, 0))
        self.assertEqual(told, (8, 9, 10, 12, 13, 0, 6, 5, 1, 0))
        self.assertEqual(builder.graph(), Graph(3, ((6, 4), (8, 7), (9, 5))))
        self.assertEqual(put_into(builder, graph, [1, 3], [6, 10]), (3, 2))
        self.assertEqual(put_into(builder, graph, (4, 6), ()), ())
        self.assertEqual(builder.graph(), Graph(3, ((6, 4), (8, 7), (9, 5), (8, 5), (9, 7))))

    def test_literal_by_literal(self):
        for number in range(60):
            rule = Rule(number + 400)
            graph = some_graph(rule, rule.pick(5), rule.pick(12))
            builder = Builder(3)
            for _ in range(rule.pick(6)):
                builder.and_of(rule.pick(8), rule.pick(8))
            many = 2 * (4 + len(builder.graph().gates))
            leaves = tuple(rule.pick(many) for _ in range(graph.leaves))
            literals = some_literals(rule, graph, 6)
            gates, places = builder.graph().gates, [0, *leaves]
            for one, other in graph.gates:
                told, gates = told_and(gates, 3, places[one // 2] ^ one % 2, places[other // 2] ^ other % 2)
                places.append(told)
            told = put_into(builder, graph, leaves, literals)
            self.assertEqual(told, tuple(places[literal // 2] ^ literal % 2 for literal in literals))
            self.assertEqual(builder.graph().gates, gates)
            for bits in all_bits(3):
                found = node_values(builder.graph(), bits)
                inner = node_values(graph, [worth(found, literal) for literal in leaves])
                self.assertEqual([worth(found, literal) for literal in told], [worth(inner, literal) for literal in literals])


if __name__ == "__main__":
    unittest.main()
