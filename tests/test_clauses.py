"""[33], [34]: clauses of graphs, and cycles one behind another."""

import unittest

from everycycle.clauses import Machine, Unrolled, behind, clause_of, clauses_of, now, played, satisfies, unrolled
from everycycle.errors import BadNumber
from everycycle.graphs import Graph, node_values
from tests.anything import anything
from tests.asking import Asking
from tests.fixed import Rule
from tests.nets import all_bits, some_graph, worth
from tests.test_graphs import is_int
from tests.test_machines import ARGUMENTS, GRAPH, some_machine


def is_true(assignment, clause):
    return any((assignment[n - 1] == 1) if n > 0 else (assignment[-n - 1] == 0) for n in clause)


class Clauses(unittest.TestCase):
    def test_satisfies(self):
        for assignment, clause, told in (
            ((), (), False), ((1,), (), False), ((1,), (1,), True), ((0,), (1,), False), ((0,), (-1,), True),
            ((1,), (-1,), False), ((0, 0, 1), (1, 2, 3), True), ((0, 0, 0), (1, 2, 3), False),
            ((1, 1, 0), (-1, -2, 3), False), ((1, 0, 0), (-1, -2, 3), True), ([1, 0], [-1, 2], False), ([1, 1], [-1, 2], True),
        ):
            self.assertIs(satisfies(assignment, clause), told)

    def test_clause_of_by_hand(self):
        for literals, told in (
            ((), ()), ((0,), ()), ((0, 0), ()), ((1,), None), ((2, 1), None), ((1, 2), None), ((2,), (1,)), ((3,), (-1,)),
            ((2, 2), (1,)), ((3, 0, 3), (-1,)), ((2, 3), None), ((3, 2), None), ((9, 2, 4), (1, 2, -4)), ((4, 5, 2), None),
            ((2, 4, 5), None), ((8, 7, 6, 8), None), ((20, 5, 20, 7, 0), (-2, -3, 10)), ([6, 3], (-1, 3)), ((0, 1), None),
        ):
            self.assertEqual(clause_of(literals), told, literals)

    def test_clause_of_says_that_one_is_true(self):
        for number in range(300):
            rule = Rule(number + 2000)
            literals = [rule.pick(10) for _ in range(rule.pick(5))]
            clause = clause_of(literals)
            if clause is not None:
                self.assertEqual([abs(n) for n in clause], sorted({abs(n) for n in clause}))
                self.assertNotIn(0, clause)
            for bits in all_bits(4):
                told = any(worth((0, *bits), literal) == 1 for literal in literals)
                self.assertEqual(told, True if clause is None else is_true(bits, clause))

    def test_clauses_of_by_hand(self):
        graph = Graph(2, ((2, 5), (6, 6), (3, 1), (0, 4), (4, 5), (13, 13)))
        self.assertEqual(clauses_of(graph), (
            (1, -3), (-2, -3), (-1, 2, 3),
            (3, -4), (3, -4), (-3, 4),
            (-1, -5), (1, 5),
            (-6,), (2, -6),
            (2, -7), (-2, -7),
            (-6, -8), (-6, -8), (6, 8),
        ))
        self.assertEqual(clauses_of(Graph(3, ())), ())
        self.assertEqual(clauses_of(Graph(0, ((1, 1), (1, 0)))), ((1,), (-2,)))

    def test_clauses_of_clause_by_clause(self):
        for number in range(60):
            rule = Rule(number + 2100)
            graph = some_graph(rule, rule.pick(5), rule.pick(12))
            told = []
            for n, (a, b) in enumerate(graph.gates, graph.leaves + 1):
                for literals in ((a, 2 * n + 1), (b, 2 * n + 1), (a ^ 1, b ^ 1, 2 * n)):
                    clause = clause_of(literals)
                    if clause is not None:
                        told.append(clause)
            self.assertEqual(clauses_of(graph), tuple(told))

    def test_just_one_assignment(self):
        """Fact A."""
        for number in range(60):
            rule = Rule(number + 2200)
            graph = some_graph(rule, rule.pick(4), rule.pick(8))
            clauses = clauses_of(graph)
            right = {}
            for assignment in all_bits(graph.leaves + len(graph.gates)):
                if all(is_true(assignment, clause) for clause in clauses):
                    self.assertNotIn(assignment[:graph.leaves], right)
                    right[assignment[:graph.leaves]] = assignment
            for bits in all_bits(graph.leaves):
                self.assertEqual(right[bits], node_values(graph, bits)[1:])
            self.assertEqual(len(right), 2 ** graph.leaves)


class StateClauses(unittest.TestCase):
    def test_by_hand(self):
        machine = Machine(*ARGUMENTS)
        for clause, told, later in (((), (), ()), ((1,), (3,), (5,)), ((-1,), (-3,), (-5,)), ((2,), (4,), (-4,)),
                                    ((-1, 2), (-3, 4), (-4, -5)), ([-1, -2], (-3, -4), (4, -5))):
            self.assertEqual(now(machine, clause), told)
            self.assertEqual(behind(machine, clause), later)
        machine = Machine(GRAPH, 1, (0, 0, 0), (2, 3, 0), 1)
        self.assertEqual(now(machine, (1, -2, 3)), (2, -3, 4))
        self.assertEqual(behind(machine, (1, 2)), None)
        self.assertEqual(behind(machine, (1, -2)), (1,))
        self.assertEqual(behind(machine, (3,)), ())
        self.assertEqual(behind(machine, (-3,)), None)

    def test_clause_by_clause_for_all_bits(self):
        """Fact B."""
        for number in range(80):
            rule = Rule(number + 2300)
            machine = some_machine(rule, 2, 3)
            many = len(machine.resets)
            for _ in range(6):
                clause = tuple(n * rule.one_of((1, -1)) for n in range(1, many + 1) if rule.pick(2))
                told, later = now(machine, clause), behind(machine, clause)
                self.assertEqual(told, tuple(n + machine.inputs if n > 0 else n - machine.inputs for n in clause))
                self.assertEqual(later, clause_of(
                    [machine.nexts[n - 1] if n > 0 else machine.nexts[-n - 1] ^ 1 for n in clause]))
                for bits in all_bits(machine.graph.leaves):
                    found = node_values(machine.graph, bits)
                    state = bits[machine.inputs:]
                    next_state = [worth(found, literal) for literal in machine.nexts]
                    self.assertIs(satisfies(found[1:], told), is_true(state, clause))
                    self.assertIs(True if later is None else satisfies(found[1:], later), is_true(next_state, clause))


class InARow(Asking, unittest.TestCase):
    def test_the_class(self):
        graph, inner = Graph(0, ()), [0]
        told = Unrolled(graph, [inner], [1])
        self.assertIs(told.graph, graph)
        self.assertEqual((told.states, told.wishes), (([0],), (1,)))
        self.assertIs(told.states[0], inner)
        told = Unrolled(None, 5, "x")
        self.assertEqual((told.graph, told.states, told.wishes), (None, 5, "x"))
        self.assertFalse(Unrolled(graph, (), ()) == Unrolled(graph, (), ()))
        self.assertTrue(told == told)

    def test_no_cycles(self):
        machine = Machine(*ARGUMENTS)
        told = unrolled(machine, 0, False)
        self.assertEqual((told.graph, told.states, told.wishes), (Graph(0, ()), ((0, 1),), ()))
        told = unrolled(machine, 0, True)
        self.assertEqual((told.graph, told.states, told.wishes), (Graph(2, ()), ((2, 4),), ()))

    def test_values_for_all_bits(self):
        """Fact C."""
        for number in range(60):
            rule = Rule(number + 2400)
            machine = some_machine(rule, 2, 3, 12)
            many = len(machine.resets)
            for free in (False, True):
                for cycles in range(4):
                    told = unrolled(machine, cycles, free)
                    self.assertIs(told.__class__, Unrolled)
                    self.assertEqual(told.graph.leaves, cycles * machine.inputs + (many if free else 0))
                    self.assertEqual((len(told.states), len(told.wishes)), (cycles + 1, cycles))
                    self.assertTrue(all(row.__class__ is tuple and len(row) == many for row in told.states))
                    self.assertEqual(told.states[0], tuple(range(2, 2 * many + 2, 2)) if free else machine.resets)
                    self.hold(machine, told, cycles, free)

    def hold(self, machine, told, cycles, free):
        many = len(machine.resets)
        for bits in all_bits(told.graph.leaves):
            state = bits[:many] if free else machine.resets
            rest = bits[many:] if free else bits
            rows = tuple(rest[k * machine.inputs:(k + 1) * machine.inputs] for k in range(cycles))
            start = Machine(machine.graph, machine.inputs, state, machine.nexts, machine.wish)
            plays = played(start, (*rows, (0,) * machine.inputs))
            found = node_values(told.graph, bits)
            self.assertEqual([tuple(worth(found, literal) for literal in row) for row in told.states],
                             [place for place, _ in plays])
            self.assertEqual([worth(found, literal) for literal in told.wishes], [wish for _, wish in plays[:-1]])

    def test_wrong_cycles(self):
        machine = Machine(*ARGUMENTS)
        for value in anything():
            for free in (False, True):
                if is_int(value, 0, 9):
                    self.assertEqual(len(unrolled(machine, value, free).wishes), value)
                elif not is_int(value, 10, 10 ** 99):
                    self.assertFails(BadNumber, {"what": "cycles", "number": value}, unrolled, machine, value, free)


if __name__ == "__main__":
    unittest.main()
