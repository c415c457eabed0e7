"""[29]: parts of graphs."""

import unittest

from everycycle.errors import BadRow
from everycycle.graphs import Graph, cone, node_values, plain, with_known
from tests.anything import anything, placed
from tests.asking import Asking
from tests.fixed import Rule
from tests.nets import all_bits, some_graph, some_literals, worth
from tests.test_builders import told_and
from tests.test_graphs import is_int, is_row


def told_anew(graph, leaves, literals):
    """What plain must tell, with these literals in the places of the leaves."""
    gates, places = (), [0, *leaves]
    for one, other in graph.gates:
        told, gates = told_and(gates, graph.leaves, places[one // 2] ^ one % 2, places[other // 2] ^ other % 2)
        places.append(told)
    return Graph(graph.leaves, gates), tuple(places[literal // 2] ^ literal % 2 for literal in literals)


def told_cone(graph, literals):
    """What cone must tell."""
    waiting, kept = [literal // 2 for literal in literals], set()
    while waiting:
        node = waiting.pop()
        if node > graph.leaves and node not in kept:
            kept.add(node)
            waiting.extend(part // 2 for part in graph.gates[node - graph.leaves - 1])
    order = [*range(graph.leaves + 1), *sorted(kept)]
    gates = [tuple(2 * order.index(part // 2) + part % 2 for part in graph.gates[node - graph.leaves - 1])
             for node in sorted(kept)]
    return Graph(graph.leaves, gates), tuple(2 * order.index(literal // 2) + literal % 2 for literal in literals)


def graphs(many):
    for number in range(many):
        rule = Rule(number + 600)
        graph = some_graph(rule, rule.pick(5), rule.pick(14))
        yield rule, graph, some_literals(rule, graph, rule.pick(5))


class Alike(unittest.TestCase):
    def hold(self, graph, literals, told, known=()):
        """The told literals must have the values of the handed ones."""
        other, places = told
        self.assertEqual(other.leaves, graph.leaves)
        self.assertEqual((told.__class__, places.__class__), (tuple, tuple))
        for bits in all_bits(graph.leaves):
            if all(bits[leaf - 1] == value for leaf, value in known):
                one, two = node_values(graph, bits), node_values(other, bits)
                self.assertEqual([worth(one, literal) for literal in literals], [worth(two, literal) for literal in places])


class Plain(Alike):
    def test_by_hand(self):
        graph = Graph(2, ((2, 4), (4, 2), (6, 8), (6, 9), (1, 5), (4, 3), (12, 12)))
        self.assertEqual(plain(graph, (6, 8, 10, 12, 15, 16, 19, 2, 1)), (Graph(2, ((4, 2), (4, 3))), (6, 6, 6, 0, 4, 8, 1, 2, 1)))
        self.assertEqual(plain(Graph(3, ()), []), (Graph(3, ()), ()))

    def test_gate_by_gate(self):
        for _, graph, literals in graphs(80):
            told = plain(graph, literals)
            self.assertEqual(told, told_anew(graph, range(2, 2 * graph.leaves + 2, 2), literals))
            self.assertEqual(plain(graph, list(literals)), told)
            self.assertEqual(plain(*told), told)
            self.hold(graph, literals, told)


class Cone(Alike):
    def test_by_hand(self):
        graph = Graph(2, ((2, 4), (4, 2), (2, 4), (7, 8), (10, 3), (0, 1)))
        self.assertEqual(cone(graph, (13,)), (Graph(2, ((2, 4), (4, 2), (7, 8))), (11,)))
        self.assertEqual(cone(graph, [10, 6, 5, 10]), (Graph(2, ((2, 4), (2, 4))), (8, 6, 5, 8)))
        self.assertEqual(cone(graph, (16, 1)), (Graph(2, ((0, 1),)), (6, 1)))
        self.assertEqual(cone(graph, (14,)), (Graph(2, ((2, 4), (6, 3))), (8,)))
        self.assertEqual(cone(graph, ()), (Graph(2, ()), ()))
        self.assertEqual(cone(graph, (2, 5, 0)), (Graph(2, ()), (2, 5, 0)))

    def test_gate_by_gate(self):
        for _, graph, literals in graphs(120):
            told = cone(graph, literals)
            self.assertEqual(told, told_cone(graph, literals))
            self.assertEqual(cone(*told), told)
            self.hold(graph, literals, told)


class Known(Asking, Alike):
    def test_by_hand(self):
        graph = Graph(3, ((2, 4), (8, 6), (3, 7), (5, 4), (9, 6)))
        self.assertEqual(with_known(graph, (8, 10, 12, 16, 2, 3, 4), ((1, 1),)), (
            Graph(3, ((6, 4), (6, 5))), (4, 8, 0, 10, 1, 0, 4)))
        self.assertEqual(with_known(graph, [8, 10, 12, 16, 2, 3, 4], [[1, 0], [3, 0]]), (Graph(3, ()), (0, 0, 1, 0, 0, 1, 4)))
        self.assertEqual(with_known(graph, (8,), ()), plain(graph, (8,)))

    def test_gate_by_gate(self):
        for rule, graph, literals in graphs(120):
            for _ in range(4):
                known = tuple((leaf, rule.pick(2)) for leaf in range(graph.leaves, 0, -1) if rule.pick(2))
                leaves = [2 * n for n in range(1, graph.leaves + 1)]
                for leaf, value in known:
                    leaves[leaf - 1] = value
                told = with_known(graph, literals, known)
                self.assertEqual(told, told_anew(graph, leaves, literals))
                self.hold(graph, literals, told, known)
                fixed = [leaf for leaf, _ in known]
                self.assertFalse([part for pair in told[0].gates for part in pair if part // 2 in fixed])
                self.assertFalse([part for part in told[1] if part // 2 in fixed])

    def test_wrong_known(self):
        graph = Graph(2, ((2, 4),))
        for known in (((0, 1),), ((3, 1),), ((1, 2),), ((1, -1),), ((1, True),), ((True, 1),), ((1, 0), (1, 0)),
                      ((1, 0), (2, 0), (1, 1)), ((1,),), ((1, 0, 0),), (1, 0), ((1, None),), None, 1, "10", {1: 0}, ("10",)):
            self.assertFails(BadRow, {"row": known}, with_known, graph, (6,), known)

    def test_anything_for_known(self):
        graph = Graph(2, ((2, 4),))
        right = ((1, 1), (2, 0))
        for value in anything():
            for known in (value, placed(right, 0, value), placed(right, 1, value), placed(right, 0, (value, 0)),
                          placed(right, 1, [2, value]), [value]):
                if is_row(known) and all(is_row(pair) and len(pair) == 2 and is_int(pair[0], 1, 2) and is_int(
                        pair[1], 0, 1) for pair in known) and len({pair[0] for pair in known}) == len(known):
                    self.assertEqual(with_known(graph, (), known)[0].leaves, 2)
                else:
                    self.assertFails(BadRow, {"row": known}, with_known, graph, (6,), known)


if __name__ == "__main__":
    unittest.main()
