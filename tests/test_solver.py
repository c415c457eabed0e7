"""[43], [44]: assignments and refutations."""

import unittest

from everycycle.clauses import clause_of, clauses_of
from everycycle.errors import BadNumber, BadRow
from everycycle.graphs import Graph, node_values
from everycycle.lines import drawn, is_refutation
from everycycle.solver import Barred, Found, is_solved, solve
from tests.anything import Own, anything, placed
from tests.asking import Asking
from tests.fixed import Rule
from tests.nets import all_bits, some_graph, worth
from tests.riddles import parities, pigeons
from tests.test_clauses import is_true
from tests.test_graphs import is_int, is_row
from tests.test_lines import bent, paths, plain_clauses, some_clauses


def some_assumed(rule, many):
    told = [n * rule.one_of((1, -1)) for n in range(1, many + 1) if rule.pick(4) == 0]
    return tuple(told if rule.pick(2) else told[::-1])


class Solve(unittest.TestCase):
    def hold(self, many, clauses, assumed, wanted):
        """solve must find an assignment exactly if wanted, and what it tells must be right; tells it."""
        told = solve(many, clauses, assumed)
        if wanted:
            self.assertIs(told.__class__, Found)
            self.assertIs(told.assignment.__class__, tuple)
            self.assertEqual((len(told.assignment), set(map(type, told.assignment)) - {int}), (many, set()))
            self.assertTrue(all(is_true(told.assignment, clause) for clause in (*clauses, *[(n,) for n in assumed])))
        else:
            self.assertIs(told.__class__, Barred)
            self.assertIs(is_refutation(clauses, told.lines, assumed), True)
            last = plain_clauses(tuple(map(tuple, clauses)), told.lines)[-1]
            self.assertTrue(all(-literal in assumed for literal in last))
            needed = {len(told.lines) - 1}
            for at in reversed(range(len(told.lines))):
                if at in needed and told.lines[at][0] == "chain":
                    needed.update((told.lines[at][1], *[step[1] for step in told.lines[at][2]]))
            self.assertEqual(len(needed), len(told.lines))
            self.assertEqual(len(drawn(clauses, told.lines)), len(set(told.lines)))
        self.assertIs(is_solved(many, clauses, assumed, told), True)
        return told

    def against_all(self, many, clauses, assumed):
        wanted = any(all(is_true(bits, clause) for clause in (*clauses, *[(n,) for n in assumed])) for bits in all_bits(many))
        self.hold(many, clauses, assumed, wanted)
        return wanted

    def test_by_hand(self):
        self.assertEqual(self.hold(0, (), (), True).assignment, ())
        self.assertEqual(self.hold(2, ((1,), (-2,)), (), True).assignment, (1, 0))
        self.assertEqual(self.hold(2, (), (-1, 2), True).assignment, (0, 1))
        self.assertEqual(self.hold(2, ((), (1,)), (), False).lines, (("given", 0),))
        self.assertEqual(self.hold(0, ((),), (), False).lines, (("given", 0),))
        self.assertEqual(self.hold(2, ((1,),), (2, -1), False).lines, (("given", 0),))
        self.assertEqual(self.hold(2, ((1, 2),), (-2, -1), False).lines, (("given", 0),))
        self.hold(1, ((1,), (-1,)), (), False)
        self.hold(1, ((1,), (-1,)), (1,), False)
        self.hold(3, ((1,), (-1, 2), (-2, 3), (-3,)), (), False)
        self.hold(3, ((-1, 2), (-2, 3)), (1, -3), False)
        self.hold(3, ((-1, 2), (-2, 3)), (-3, 1), False)
        self.hold(3, ((-1, 2), (-2, 3)), (1, 3), True)
        self.hold(2, ((1, 2), (1, 2), (1, 2)), (), True)
        self.assertIs(solve(3, [[1], [-1, 2]]).__class__, Found)
        self.assertIs(solve(3, [[1], [-1, 2]], [-2]).__class__, Barred)
        self.assertIs(solve(3, ((1,), (-1, 2)), assumed=(-2,)).__class__, Barred)

    def test_against_all_assignments(self):
        found, barred = 0, 0
        for number in range(1200):
            rule = Rule(number + 3300)
            many = rule.pick(9)
            clauses = some_clauses(rule, many, rule.pick(5 * many + 1)) if many else ()
            if rule.pick(40) == 0:
                clauses = (*clauses, (), *clauses)
            told = self.against_all(many, clauses, some_assumed(rule, many))
            found, barred = found + told, barred + (not told)
        self.assertTrue(found > 200 and barred > 200, (found, barred))

    def test_twelve_variables(self):
        barred = 0
        for number in range(40):
            rule = Rule(number + 3400)
            clauses = some_clauses(rule, 12, 60)
            barred += not self.against_all(12, clauses, some_assumed(rule, 12) if number % 2 else ())
        self.assertGreater(barred, 5)

    def test_the_order_of_the_assumed_literals(self):
        clauses = ((-1, -2, 3), (-3, 4), (-4, -5))
        for assumed in ((1, 2, 5), (5, 2, 1), (2, 5, 1), (1, 5, 2)):
            self.hold(5, clauses, assumed, False)
        for assumed in ((1, 5), (5, 2), (2, 1), (-5, 1, 2), (4, 2, 1)):
            self.hold(5, clauses, assumed, True)

    def test_riddles(self):
        for many in (2, 3, 4, 5, 6):
            variables, clauses = pigeons(many + 1, many)
            self.hold(variables, clauses, (), False)
            self.hold(variables, clauses[1:], (), True)
            self.hold(variables, clauses[1:], (1,), False)
        for many in (3, 4, 5, 12, 40):
            for odd in range(4):
                self.hold(*parities(many, odd), (), (many - odd) % 2 == 0)

    def test_clauses_of_graphs(self):
        for number in range(80):
            rule = Rule(number + 3500)
            graph = some_graph(rule, 1 + rule.pick(6), 1 + rule.pick(40))
            many = graph.leaves + len(graph.gates)
            wish = rule.pick(2 * many + 2)
            clause = clause_of((wish,))
            clauses = (*clauses_of(graph), *([] if clause is None else [clause]))
            assumed = tuple(n * rule.one_of((1, -1)) for n in range(1, graph.leaves + 1) if rule.pick(3) == 0)
            wanted = any(worth(node_values(graph, bits), wish) == 1 and all(bits[abs(n) - 1] == (n > 0) for n in assumed)
                         for bits in all_bits(graph.leaves))
            told = self.hold(many, clauses, assumed, wanted)
            if wanted:
                self.assertEqual(node_values(graph, told.assignment[:graph.leaves])[1:], told.assignment)

    def test_what_is_handed_in_stays(self):
        clauses, assumed = [[1, 2], [-1, 2], [-2, 3], [-1, -3]], [1]
        solve(3, clauses, assumed)
        self.assertEqual((clauses, assumed), ([[1, 2], [-1, 2], [-2, 3], [-1, -3]], [1]))


class Classes(unittest.TestCase):
    def test_what_they_keep(self):
        inner = [0]
        for kind, name in ((Found, "assignment"), (Barred, "lines")):
            self.assertEqual(getattr(kind([0, 1]), name), (0, 1))
            self.assertEqual(getattr(kind((0, 1)), name), (0, 1))
            self.assertIs(getattr(kind([inner]), name)[0], inner)
            for value in anything():
                if not isinstance(value, list):
                    self.assertIs(getattr(kind(value), name), value)
            one = kind((0,))
            self.assertTrue(one == one)
            self.assertFalse(one == kind((0,)))


class Judged(Asking, unittest.TestCase):
    CLAUSES = ((1, 2), (-1, 2), (1, -2))
    LINES = (("given", 0), ("given", 1), ("chain", 0, ((1, 1),)), ("given", 2), ("chain", 3, ((2, 2),)))

    def test_assignments(self):
        for value, told in (((1, 1), True), ([1, 1], True), ((0, 1), False), ((1, 0), False), ((1,), False), ((1, 1, 1), False),
                            ((True, 1), False), ((1, True), False), ((1, 2), False), ((1, None), False), ((), False), (None, False),
                            ("11", False), ({0: 1, 1: 1}, False), ((1.0, 1), False)):
            self.assertIs(is_solved(2, self.CLAUSES, (), Found(value)), told, value)
            self.assertIs(is_solved(2, self.CLAUSES, (), Barred(value)), False, value)
        self.assertIs(is_solved(2, self.CLAUSES, (1, 2), Found((1, 1))), True)
        self.assertIs(is_solved(2, self.CLAUSES, (-1,), Found((1, 1))), False)
        self.assertIs(is_solved(2, (), (-1,), Found((0, 1))), True)

    def test_refutations(self):
        for assumed, told in (((-1,), True), ((1,), False), ((), False), ((-1, 2), True), ([2, -1], True)):
            self.assertIs(is_solved(2, self.CLAUSES, assumed, Barred(self.LINES)), told)
            self.assertIs(is_solved(2, self.CLAUSES, assumed, Found(self.LINES)), False)
        # The last line must go back to each one.
        self.assertIs(is_solved(2, self.CLAUSES, (-1,), Barred((*self.LINES[:3], ("given", 0), *self.LINES[3:]))), False)
        more = (*self.LINES[:4], ("given", 2), ("chain", 3, ((2, 2),)))
        self.assertIs(is_refutation(self.CLAUSES, more, (-1,)), True)
        self.assertIs(is_solved(2, self.CLAUSES, (-1,), Barred(more)), False)
        self.assertIs(is_solved(2, self.CLAUSES, (-1,), Barred(list(self.LINES))), True)
        self.assertIs(is_solved(2, self.CLAUSES, (-1,), Barred([list(line) for line in self.LINES])), False)
        self.assertIs(is_solved(2, self.CLAUSES, (-1,), Barred(())), False)

    def test_each_thing_bent(self):
        for path in paths(self.LINES):
            for value in (0, 1, 2, 3, 4, -1, True, False, None, "0", 1.0, (), [], Own()):
                lines = bent(self.LINES, path, value)
                clauses, wanted = (*self.CLAUSES, (-1,)), False
                told = plain_clauses(self.CLAUSES, tuple(lines) if lines.__class__ is list else lines)
                if told:
                    wanted = all(literal == 1 for literal in told[-1])
                    needed = {len(lines) - 1}
                    for at in reversed(range(len(lines))):
                        if at in needed and lines[at][0] == "chain":
                            needed.update((lines[at][1], *[step[1] for step in lines[at][2]]))
                    wanted = wanted and len(needed) == len(lines)
                self.assertIs(is_solved(2, self.CLAUSES, (-1,), Barred(lines)), wanted, path)
                self.assertIs(is_solved(2, clauses, (), Barred(lines)), False)

    def test_anything(self):
        for value in anything():
            self.assertIs(is_solved(2, self.CLAUSES, (), value), False)
            right = value.__class__ is tuple and [part.__class__ for part in value] == [int, int] and value == (1, 1)
            self.assertIs(is_solved(2, self.CLAUSES, (), Found(value)), right)
            self.assertIs(is_solved(2, self.CLAUSES, (), Barred(value)), False)
            self.assertIs(is_solved(2, self.CLAUSES, (), Found((1, value))), value.__class__ is int and value == 1)
        for told in (((1, 1),), Found, Barred, Graph(0, ()), (1, 1)):
            self.assertIs(is_solved(2, self.CLAUSES, (), told), False)


def are_right_clauses(many, value):
    def is_right(clause):
        if not is_row(clause) or not all(is_int(n, -many, many) and n != 0 for n in clause):
            return False
        return all(abs(one) < abs(other) for one, other in zip(clause, clause[1:]))

    return is_row(value) and all(is_right(clause) for clause in value)


class Errors(Asking, unittest.TestCase):
    def fails(self, kind, fields, many, clauses, assumed):
        self.assertFails(kind, fields, solve, many, clauses, assumed)
        self.assertFails(kind, fields, is_solved, many, clauses, assumed, Found((1, 1)))
        self.assertFails(kind, fields, is_solved, many, clauses, assumed, None)

    def test_many(self):
        for value in anything():
            if not is_int(value, 0, 10 ** 99):
                self.fails(BadNumber, {"what": "many", "number": value}, value, value, value)
        self.fails(BadNumber, {"what": "many", "number": -1}, -1, (), ())
        self.fails(BadNumber, {"what": "many", "number": True}, True, (), ())

    def test_clauses(self):
        right = ((1, -2), (2,))
        for wrong in (((3,),), ((-3,),), ((0,),), ((1, 1),), ((1, -1),), ((2, 1),), ((-2, 1),), ((True,),), ((1, True),), (1,),
                      ((1.0,),), (("1",),), ((1, None),), 1, None, "", {}, [(1,), [2, 1]], ({1: 1},), ({1},)):
            self.fails(BadRow, {"row": wrong}, 2, wrong, None)
            self.fails(BadRow, {"row": wrong}, 2, wrong, (3,))
        for value in anything():
            for clauses in (value, (value,), placed(right, 0, value), [(1, value)], ((value,),), ((value, 2),), (*right, value)):
                if are_right_clauses(2, clauses):
                    self.assertIn(solve(2, clauses).__class__, (Found, Barred))
                else:
                    self.fails(BadRow, {"row": clauses}, 2, clauses, value)

    def test_assumed(self):
        for wrong in ((3,), (-3,), (0,), (1, 1), (1, -1), (1, 2, -1), (True,), (1, None), 1, None, "", {}, {1: 1}, ((1,),), [1, 1]):
            self.fails(BadRow, {"row": wrong}, 2, ((1, 2),), wrong)
        for value in anything():
            for assumed in (value, (value,), [1, value], (value, 2)):
                right = is_row(assumed) and all(is_int(n, -2, 2) and n != 0 for n in assumed)
                if right and len({abs(n) for n in assumed}) == len(assumed):
                    self.assertIn(solve(2, ((1, 2),), assumed).__class__, (Found, Barred))
                else:
                    self.fails(BadRow, {"row": assumed}, 2, ((1, 2),), assumed)


if __name__ == "__main__":
    unittest.main()
