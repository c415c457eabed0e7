"""Machines, clauses, and cycles put one behind another in a graph."""

from everycycle.errors import BadNumber, BadRow
from everycycle.graphs import Builder, literal_value, node_values, put_into
from everycycle.kinds import are_rows_of_bits, is_between, is_from, is_row_between, row_kept


class Machine:
    """A graph whose first leaves are the inputs' bits, the others the registers, with what leads them and a wish."""

    def __init__(self, graph, inputs, resets, nexts, wish):
        most = 2 * (graph.leaves + len(graph.gates)) + 1
        if not is_between(inputs, 0, graph.leaves):
            raise BadNumber("inputs", inputs)
        if not is_row_between(resets, graph.leaves - inputs, 0, 1):
            raise BadRow(resets)
        if not is_row_between(nexts, graph.leaves - inputs, 0, most):
            raise BadRow(nexts)
        if not is_between(wish, 0, most):
            raise BadNumber("wish", wish)
        self.graph = graph
        self.inputs = inputs
        self.resets = tuple(resets)
        self.nexts = tuple(nexts)
        self.wish = wish

    def __eq__(self, other):
        return (
            isinstance(other, Machine) and self.graph == other.graph and self.inputs == other.inputs
            and self.resets == other.resets and self.nexts == other.nexts and self.wish == other.wish
        )


def played(machine, rows):
    """The pairs (state, wish) of the cycles from reset with these rows of inputs' bits."""
    if not are_rows_of_bits(rows, machine.inputs):
        raise BadRow(rows)
    told = []
    state = machine.resets
    for row in rows:
        found = node_values(machine.graph, (*row, *state))
        told.append((state, literal_value(found, machine.wish)))
        state = tuple([literal_value(found, literal) for literal in machine.nexts])
    return tuple(told)


def breaks(machine, rows):
    """Whether the wish is 0 in the last cycle, and 1 in all ahead of it."""
    wishes = [wish for _, wish in played(machine, rows)]
    return len(wishes) > 0 and wishes[-1] == 0 and 0 not in wishes[:-1]


def satisfies(assignment, clause):
    """Whether an assignment of the variables satisfies a clause."""
    for literal in clause:
        if assignment[abs(literal) - 1] == (1 if literal > 0 else 0):
            return True
    return False


def clause_of(literals):
    """The clause that says that one of these literals of a graph is 1; None if that is always so."""
    standing = {}
    for literal in literals:
        if literal == 1 or literal ^ 1 in standing:
            return None
        if literal != 0:
            standing[literal] = True
    return tuple([-(literal >> 1) if literal & 1 else literal >> 1 for literal in sorted(list(standing))])


def clauses_of(graph):
    """The clauses that say of each gate, in order, that its value is that of both of its literals together."""
    told = []
    gate = 2 * (graph.leaves + 1)
    for one, other in graph.gates:
        for literals in ((one, gate ^ 1), (other, gate ^ 1), (one ^ 1, other ^ 1, gate)):
            clause = clause_of(literals)
            if clause is not None:
                told.append(clause)
        gate += 2
    return tuple(told)


def now(machine, clause):
    """The clause of the graph's nodes that says in a cycle what a state clause says."""
    return tuple([n + machine.inputs if n > 0 else n - machine.inputs for n in clause])


def behind(machine, clause):
    """The clause of the graph's nodes that says what a state clause says behind the cycle; None if it always is so."""
    return clause_of([machine.nexts[abs(n) - 1] ^ (1 if n < 0 else 0) for n in clause])


class Unrolled:
    """Cycles one behind another: a graph, the registers' literals around each cycle, and the wishes in them."""

    def __init__(self, graph, states, wishes):
        self.graph = row_kept(graph)
        self.states = row_kept(states)
        self.wishes = row_kept(wishes)


def unrolled(machine, cycles, free):
    """So many cycles of a machine, from reset, or from a state that the first leaves tell."""
    if not is_from(cycles, 0):
        raise BadNumber("cycles", cycles)
    ahead = len(machine.resets) if free else 0
    builder = Builder(ahead + cycles * machine.inputs)
    state = tuple([2 * n for n in range(1, ahead + 1)]) if free else machine.resets
    states, wishes = [state], []
    for k in range(cycles):
        first = ahead + k * machine.inputs + 1
        leaves = [2 * n for n in range(first, first + machine.inputs)]
        told = put_into(builder, machine.graph, (*leaves, *state), (*machine.nexts, machine.wish))
        state = told[:-1]
        states.append(state)
        wishes.append(told[-1])
    return Unrolled(builder.graph(), tuple(states), tuple(wishes))
