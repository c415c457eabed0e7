"""Clauses of cycles one behind another, and lots of more and more cycles, asked of one search."""

from everycycle.asked import AskedSearch
from everycycle.clauses import clause_of, clauses_of, unrolled
from everycycle.lines import drawn_lines


def lot_of(graph, literals):
    """The pair (variables, clauses) of a graph and of rows of literals, one of each of which is to be 1."""
    asked = [clause_of(row) for row in literals]
    return graph.leaves + len(graph.gates), (*clauses_of(graph), *[clause for clause in asked if clause is not None])


def cut_up(bits, size, many):
    """The first bits as so many rows of one size."""
    return tuple([tuple(bits[size * k:size * (k + 1)]) for k in range(many)])


class Lots:
    """The lots of one cycle, two cycles and so on, that the wish is 0 in the last one.

    The graph of a lot is that of the lot ahead with more leaves and gates, and only the gates' numbers are others: so
    one search takes what is new, and what it has learnt stays. It numbers leaves and gates as they come: leaves and
    gates hold these numbers in the lots' order. places tell of each number how far the variable stands from the end of
    the leaves in any lot, a gate from 1 on; or which leaf it is, from -1 on downwards. taken is how many clauses of the
    graph have been taken.
    """

    def __init__(self, machine):
        self.machine = machine
        self.search = AskedSearch(0, ())
        self.leaves = []
        self.gates = []
        self.places = [0]
        self.cycles = 0
        self.taken = 0

    def put_cycle(self):
        """Takes one cycle more; the clause of the search's variables that the wish is 0 there, None if it is."""
        self.cycles += 1
        told = unrolled(self.machine, self.cycles, False)
        for n in self.search.put_variables(self.machine.inputs):
            self.leaves.append(n)
            self.places.append(-len(self.leaves))
        for n in self.search.put_variables(len(told.graph.gates) - len(self.gates)):
            self.gates.append(n)
            self.places.append(len(self.gates))
        numbers = [0, *self.leaves, *self.gates]
        clauses = clauses_of(told.graph)
        for n in range(self.taken, len(clauses)):
            self.search.put_more(("given", n), numbered(numbers, clauses[n]))
        self.taken = len(clauses)
        last = clause_of((told.wishes[-1] ^ 1,))
        return None if last is None else numbered(numbers, last)

    def next_lot(self):
        """The pair (rows, None) of the next lot, the wish being 0 in the last cycle with rows, or (None, paper)."""
        last = self.put_cycle()
        if last == []:
            return None, (("given", self.taken),)
        if self.search.answer([] if last is None else last):
            bits = [1 if self.search.truths[n] == 1 else 0 for n in self.leaves]
            return cut_up(bits, self.machine.inputs, self.cycles), None
        return None, self.paper(last[0])

    def paper(self, literal):
        """The refutation of the lot in which a literal was asked for and failed."""
        end = self.search.put_end()
        lines = [*self.search.lines, ("given", self.taken)]
        lines.append(("chain", len(lines) - 1, ((abs(literal), end),)))
        return tuple([self.renumbered(line) for line in drawn_lines(lines)])

    def renumbered(self, line):
        """A line of the search with the numbers that its variables have in the lot."""
        if line[0] == "given":
            return line
        return ("chain", line[1], tuple([(self.number(variable), at) for variable, at in line[2]]))

    def number(self, variable):
        """The number in the lot of a variable of the search."""
        place = self.places[variable]
        return -place if place < 0 else len(self.leaves) + place


def numbered(numbers, clause):
    """A clause with other numbers for its variables."""
    return [numbers[n] if n > 0 else -numbers[-n] for n in clause]
