"""Graphs of and-gates: their values, how they are made, and parts of them.

Node 0 is the constant 0, then come the leaves, then the gates; a literal is 2 * n for node n, 2 * n + 1 for its
opposite, so that `literal ^ 1` is always the opposite.
"""

from everycycle.errors import BadNumber, BadRow
from everycycle.kinds import is_between, is_from, is_row, is_row_between


class Graph:
    """A graph with so many leaves and with these gates, each a pair of literals of nodes ahead."""

    def __init__(self, leaves, gates):
        need_leaves(leaves)
        if not are_gates(leaves, gates):
            raise BadRow(gates)
        self.leaves = leaves
        self.gates = tuple([tuple(pair) for pair in gates])

    def __eq__(self, other):
        return isinstance(other, Graph) and self.leaves == other.leaves and self.gates == other.gates


def need_leaves(leaves):
    """Raises the error of what is no number of leaves."""
    if not is_from(leaves, 0):
        raise BadNumber("leaves", leaves)


def are_gates(leaves, value):
    """Whether any value is a row of gates behind so many leaves."""
    if not is_row(value):
        return False
    most = 2 * leaves + 1
    for pair in value:
        if not is_row_between(pair, 2, 0, most):
            return False
        most += 2
    return True


def node_values(graph, bits):
    """The values of all nodes for these bits of the leaves."""
    if not is_row_between(bits, graph.leaves, 0, 1):
        raise BadRow(bits)
    found = [0, *bits]
    for one, other in graph.gates:
        found.append((found[one >> 1] ^ one & 1) & (found[other >> 1] ^ other & 1))
    return tuple(found)


def literal_value(found, literal):
    """The value of a literal by the values of the nodes, None if its node has none."""
    value = found[literal >> 1]
    if value is None:
        return None
    return value ^ literal & 1


def are_sure_bits(value, many):
    """Whether any value is a row of so many 0, 1 and None."""
    if not is_row(value) or len(value) != many:
        return False
    return all([bit is None or is_between(bit, 0, 1) for bit in value])


def sure_values(graph, bits):
    """The values of all nodes as far as they follow gate by gate from the bits that are no None."""
    if not are_sure_bits(bits, graph.leaves):
        raise BadRow(bits)
    found = [0, *bits]
    for one, other in graph.gates:
        found.append(sure_and(literal_value(found, one), literal_value(found, other)))
    return tuple(found)


def sure_and(one, other):
    """1 if both are 1, 0 if one is 0, otherwise None."""
    if one == 0 or other == 0:
        return 0
    if one is None or other is None:
        return None
    return 1


class Builder:
    """Makes a graph gate by gate; no gate ever changes, and none is put twice."""

    def __init__(self, leaves):
        need_leaves(leaves)
        self.leaves = leaves
        self.gates = []
        self.standing = {}

    def graph(self):
        """The graph so far."""
        return Graph(self.leaves, self.gates)

    def and_of(self, one, other):
        """The literal that is 1 if both are, by a gate of its own only where that must be."""
        if one == 0 or other == 0 or one == other ^ 1:
            return 0
        if one == 1:
            return other
        if other == 1 or one == other:
            return one
        pair = (one, other) if one > other else (other, one)
        if pair not in self.standing:
            self.gates.append(pair)
            self.standing[pair] = 2 * (self.leaves + len(self.gates))
        return self.standing[pair]


def or_of(builder, one, other):
    """The literal that is 1 if one of both is."""
    return builder.and_of(one ^ 1, other ^ 1) ^ 1


def xor_of(builder, one, other):
    """The literal that is 1 if just one of both is."""
    both = builder.and_of(one, other)
    none = builder.and_of(one ^ 1, other ^ 1)
    return builder.and_of(both ^ 1, none ^ 1)


def choice_of(builder, c, one, other):
    """The literal that is one where c is 1, otherwise other."""
    return or_of(builder, builder.and_of(c, one), builder.and_of(c ^ 1, other))


def literal_in(places, literal):
    """The literal that stands for one of a graph whose nodes have these literals."""
    return places[literal >> 1] ^ literal & 1


def put_into(builder, graph, leaves, literals):
    """The literals of a graph in the builder, these literals standing for its leaves."""
    places = [0, *leaves]
    for one, other in graph.gates:
        places.append(builder.and_of(literal_in(places, one), literal_in(places, other)))
    return tuple([literal_in(places, literal) for literal in literals])


def own_leaves(graph):
    """The literals of the leaves, in order."""
    return [2 * n for n in range(1, graph.leaves + 1)]


def made_anew(graph, leaves, literals):
    """The pair (graph, literals) with the same leaves, all gates made anew with literals in the leaves' places."""
    builder = Builder(graph.leaves)
    told = put_into(builder, graph, leaves, literals)
    return builder.graph(), told


def plain(graph, literals):
    """The pair (graph, literals) with all gates made anew in order."""
    return made_anew(graph, own_leaves(graph), literals)


def needed_gates(graph, literals):
    """For each node whether a literal needs it."""
    first = graph.leaves + 1
    needed = [False] * (first + len(graph.gates))
    for literal in literals:
        needed[literal >> 1] = True
    for n in reversed(range(first, len(needed))):
        if needed[n]:
            one, other = graph.gates[n - first]
            needed[one >> 1] = True
            needed[other >> 1] = True
    return needed


def cone(graph, literals):
    """The pair (graph, literals) with those gates alone that the literals need."""
    needed = needed_gates(graph, literals)
    places = [0, *own_leaves(graph)]
    gates = []
    for one, other in graph.gates:
        if needed[len(places)]:
            gates.append((literal_in(places, one), literal_in(places, other)))
            places.append(2 * (graph.leaves + len(gates)))
        else:
            places.append(0)
    return Graph(graph.leaves, gates), tuple([literal_in(places, literal) for literal in literals])


def are_known(leaves, value):
    """Whether any value is a row of pairs of leaves and 0 or 1, no leaf twice."""
    if not is_row(value) or not all([is_row(pair) and len(pair) == 2 for pair in value]):
        return False
    seen = {}
    for leaf, bit in value:
        if not is_between(leaf, 1, leaves) or not is_between(bit, 0, 1) or leaf in seen:
            return False
        seen[leaf] = True
    return True


def with_known(graph, literals, known):
    """The pair (graph, literals) made anew with constants in the places of the leaves that are known."""
    if not are_known(graph.leaves, known):
        raise BadRow(known)
    leaves = own_leaves(graph)
    for leaf, bit in known:
        leaves[leaf - 1] = bit
    return made_anew(graph, leaves, literals)
