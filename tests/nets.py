"""Graphs made by a fixed rule, and their values once more, apart from the program."""

from itertools import product

from everycycle.graphs import Graph


def some_graph(rule, leaves, many):
    """A graph with so many leaves and gates; constants, alike and opposite literals stand in it, too."""
    gates = []
    for _ in range(many):
        last = 2 * (leaves + 1 + len(gates)) - 1
        one, other = rule.pick(last + 1), rule.pick(last + 1)
        if rule.pick(9) == 0:
            other = one ^ rule.pick(2)
        if rule.pick(9) == 0 and gates:
            one, other = rule.one_of(gates)[::rule.one_of((1, -1))]
        gates.append((one, other))
    return Graph(leaves, tuple(gates))


def some_literals(rule, graph, many):
    return tuple(rule.pick(2 * (graph.leaves + 1 + len(graph.gates))) for _ in range(many))


def all_bits(many):
    return product((0, 1), repeat=many)


def holds(graph, bits, literal):
    """Whether a literal has the value 1, by going back from it."""
    node = literal // 2
    if node == 0:
        told = False
    elif node <= graph.leaves:
        told = bits[node - 1] == 1
    else:
        told = all(holds(graph, bits, part) for part in graph.gates[node - graph.leaves - 1])
    return told != (literal % 2 == 1)


def value_of(graph, bits, literal):
    return 1 if holds(graph, bits, literal) else 0


def nodes_of(graph):
    return range(1 + graph.leaves + len(graph.gates))


def worth(found, literal):
    """The value of a literal by the values of all nodes."""
    return found[literal // 2] if literal % 2 == 0 else 1 - found[literal // 2]
