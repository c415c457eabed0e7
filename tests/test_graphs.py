"""[26], [27]: graphs and their values."""

import unittest
from itertools import product

from everycycle.errors import BadNumber, BadRow
from everycycle.graphs import Builder, Graph, literal_value, node_values, sure_values
from tests.anything import anything, placed
from tests.asking import Asking
from tests.fixed import Rule
from tests.nets import all_bits, nodes_of, some_graph, value_of


def is_int(value, least, most):
    return value.__class__ is int and least <= value <= most


def is_row(value):
    return isinstance(value, (tuple, list))


def are_right_gates(leaves, value):
    return is_row(value) and all(
        is_row(pair) and len(pair) == 2 and all(is_int(part, 0, 2 * (leaves + n) + 1) for part in pair)
        for n, pair in enumerate(value))


class Graphs(Asking, unittest.TestCase):
    def test_attributes(self):
        for gates in (((2, 4), (6, 3)), [[2, 4], [6, 3]], ([2, 4], (6, 3)), [(2, 4), [6, 3]]):
            graph = Graph(2, gates)
            self.assertEqual((graph.leaves, graph.gates), (2, ((2, 4), (6, 3))))
            self.assertIs(graph.gates.__class__, tuple)
            self.assertTrue(all(pair.__class__ is tuple for pair in graph.gates))
        self.assertEqual((Graph(0, ()).leaves, Graph(0, []).gates), (0, ()))
        self.assertEqual(Graph(0, ((1, 1), (3, 0))).gates, ((1, 1), (3, 0)))

    def test_a_list_changed_later_changes_nothing(self):
        inner, gates = [2, 4], []
        gates.extend((inner, [6, 3]))
        graph = Graph(2, gates)
        inner[0] = 5
        gates.append([0, 0])
        self.assertEqual(graph.gates, ((2, 4), (6, 3)))
        self.assertEqual(graph, Graph(2, ((2, 4), (6, 3))))

    def test_equal(self):
        graph = Graph(2, ((2, 4),))
        self.assertTrue(graph == graph)
        self.assertTrue(graph == Graph(2, [[2, 4]]))
        self.assertFalse(graph != Graph(2, [[2, 4]]))
        for other in (Graph(2, ()), Graph(3, ((2, 4),)), Graph(2, ((4, 2),)), Graph(2, ((2, 4), (2, 4))), (2, ((2, 4),)), None, 2, Builder(2)):
            self.assertFalse(graph == other)
            self.assertFalse(other == graph)
            self.assertTrue(graph != other)

    def test_literals_reach_to_the_node_ahead(self):
        for leaves in (0, 1, 3):
            most = 2 * leaves + 1
            self.assertEqual(Graph(leaves, ((most, most), (most + 2, 0))).gates, ((most, most), (most + 2, 0)))
            for wrong in (((most + 1, 0),), ((0, most + 1),), ((0, 0), (most + 3, 0)), ((-1, 0),), ((0, -1),)):
                self.assertFails(BadRow, {"row": wrong}, Graph, leaves, wrong)

    def test_leaves_go_ahead_of_gates(self):
        for leaves in (-1, True, False, None, "2", 2.0, (2,), [], 1.5):
            self.assertFails(BadNumber, {"what": "leaves", "number": leaves}, Graph, leaves, ())
            self.assertFails(BadNumber, {"what": "leaves", "number": leaves}, Graph, leaves, None)
            self.assertFails(BadNumber, {"what": "leaves", "number": leaves}, Builder, leaves)

    def test_anything_for_leaves(self):
        for value in anything():
            if is_int(value, 0, 10 ** 99):
                self.assertEqual(Graph(value, ()).leaves, value)
                self.assertEqual(Builder(value).graph(), Graph(value, ()))
            else:
                self.assertFails(BadNumber, {"what": "leaves", "number": value}, Graph, value, value)
                self.assertFails(BadNumber, {"what": "leaves", "number": value}, Builder, value)

    def test_anything_for_gates(self):
        right = ((2, 4), (6, 3))
        for value in anything():
            for gates in (value, placed(right, 0, value), placed(right, 1, value), placed(right, 0, (2, value)),
                          placed(right, 1, [value, 3]), (*right, value)):
                if are_right_gates(2, gates):
                    self.assertEqual(Graph(2, gates).gates, tuple(tuple(pair) for pair in gates))
                else:
                    self.assertFails(BadRow, {"row": gates}, Graph, 2, gates)


class Values(Asking, unittest.TestCase):
    def test_by_hand(self):
        graph = Graph(2, ((2, 4), (3, 5), (7, 9), (11, 11), (1, 2), (0, 1), (2, 3)))
        self.assertEqual(node_values(graph, (0, 0)), (0, 0, 0, 0, 1, 0, 1, 0, 0, 0))
        self.assertEqual(node_values(graph, [0, 1]), (0, 0, 1, 0, 0, 1, 0, 0, 0, 0))
        self.assertEqual(node_values(graph, (1, 0)), (0, 1, 0, 0, 0, 1, 0, 1, 0, 0))
        self.assertEqual(node_values(graph, (1, 1)), (0, 1, 1, 1, 0, 0, 1, 1, 0, 0))
        self.assertEqual(node_values(Graph(0, ((1, 1),)), ()), (0, 1))
        self.assertEqual(node_values(Graph(0, ()), []), (0,))

    def test_all_bits_of_small_graphs(self):
        for number in range(60):
            rule = Rule(number)
            graph = some_graph(rule, rule.pick(5), rule.pick(14))
            for bits in all_bits(graph.leaves):
                found = node_values(graph, bits)
                self.assertEqual(found, tuple(value_of(graph, bits, 2 * n) for n in nodes_of(graph)))
                self.assertEqual(node_values(graph, list(bits)), found)
                self.assertEqual(sure_values(graph, bits), found)
                for n in nodes_of(graph):
                    self.assertEqual(literal_value(found, 2 * n), found[n])
                    self.assertEqual(literal_value(found, 2 * n + 1), 1 - found[n])

    def test_literal_value_of_none(self):
        found = (0, None, 1)
        self.assertEqual([literal_value(found, literal) for literal in range(6)], [0, 1, None, None, 1, 0])
        self.assertEqual([literal_value(list(found), literal) for literal in range(6)], [0, 1, None, None, 1, 0])

    def test_sure_values_gate_by_gate(self):
        values = {0: 0, 1: 1, None: None}
        graph = Graph(2, ((2, 4), (3, 4), (2, 5), (3, 5)))
        for a, b in product(values, values):
            turned = [None if x is None else 1 - x for x in (a, b)]
            told = [0, a, b]
            for one, other in ((a, b), (turned[0], b), (a, turned[1]), tuple(turned)):
                told.append(0 if 0 in (one, other) else 1 if (one, other) == (1, 1) else None)
            self.assertEqual(sure_values(graph, (a, b)), tuple(told))
            self.assertEqual(sure_values(graph, [a, b]), tuple(told))
        # One leaf, its opposite: no more is sure than by each literal alone.
        self.assertEqual(sure_values(Graph(1, ((2, 3), (4, 0))), (None,)), (0, None, None, 0))

    def test_sure_values_against_all_fillings(self):
        unsure = 0
        for number in range(40):
            rule = Rule(number + 100)
            graph = some_graph(rule, rule.pick(5), rule.pick(12))
            whole = {bits: node_values(graph, bits) for bits in all_bits(graph.leaves)}
            for bits in product((0, 1, None), repeat=graph.leaves):
                found = sure_values(graph, bits)
                self.assertEqual(found[:graph.leaves + 1], (0, *bits))
                for filled, values in whole.items():
                    if all(bit in (None, other) for bit, other in zip(bits, filled)):
                        self.assertTrue(all(one in (None, other) for one, other in zip(found, values)))
                for n, (one, other) in enumerate(graph.gates, graph.leaves + 1):
                    parts = (literal_value(found, one), literal_value(found, other))
                    self.assertEqual(found[n], 0 if 0 in parts else None if None in parts else 1)
                    unsure += found[n] is None
        self.assertGreater(unsure, 1000)

    def test_wrong_bits(self):
        graph = Graph(2, ((2, 4),))
        for bits in ((), (0,), (0, 1, 1), (0, 2), (-1, 0), (True, 0), (0, False), (0, "1"), (0, 1.0), "01", 1, None, {0: 1, 1: 1}):
            self.assertFails(BadRow, {"row": bits}, node_values, graph, bits)
            self.assertFails(BadRow, {"row": bits}, sure_values, graph, bits)
        self.assertFails(BadRow, {"row": (0, None)}, node_values, graph, (0, None))

    def test_anything_for_bits(self):
        for value in anything():
            for bits, many in ((value, 0), (value, 1), (value, 2), ((value,), 1), ((1, value), 2), ([value, 0], 2)):
                graph = Graph(many, ())
                plain = is_row(bits) and len(bits) == many
                for call, right in (
                    (node_values, plain and all(is_int(bit, 0, 1) for bit in bits)),
                    (sure_values, plain and all(bit is None or is_int(bit, 0, 1) for bit in bits)),
                ):
                    if right:
                        self.assertEqual(call(graph, bits), (0, *bits))
                    else:
                        self.assertFails(BadRow, {"row": bits}, call, graph, bits)


if __name__ == "__main__":
    unittest.main()
