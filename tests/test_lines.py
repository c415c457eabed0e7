"""[36], [37], [38], [39]: lines drawn from clauses."""

import unittest
from itertools import product

from everycycle.errors import BadRow
from everycycle.lines import drawn, is_refutation, line_clauses, resolvent, roots_of
from everycycle.solver import Barred, solve
from tests.anything import Own, Sly, anything, placed
from tests.asking import Asking
from tests.fixed import Rule
from tests.nets import all_bits
from tests.riddles import pigeons
from tests.test_clauses import is_true

CLAUSES = ((1, 2), (-1, 2), (1, -2), (-1, -2), (3,))
REFUTATION = (
    ("given", 0), ("given", 1), ("given", 2), ("given", 3), ("chain", 0, ((1, 1),)), ("chain", 2, ((2, 4),)),
    ("chain", 3, ((1, 5), (2, 4))),
)


def some_clause(rule, many, most=3):
    variables = sorted({1 + rule.pick(many) for _ in range(1 + rule.pick(most))})
    return tuple(n * rule.one_of((1, -1)) for n in variables)


def some_clauses(rule, many, clauses):
    return tuple(some_clause(rule, many) for _ in range(clauses))


def told_resolvent(one, other, variable):
    """What resolvent must tell, by sets."""
    for a, b in ((one, other), (other, one)):
        if variable in a and -variable in b:
            rest = (set(a) | set(b)) - {variable, -variable}
            if not any(-n in rest for n in rest):
                return tuple(sorted(rest, key=abs))
    return None


def some_lines(rule, clauses, many):
    """Lines of clauses, each step of which is there, drawn by a rule."""
    lines, told = [], []
    for _ in range(many):
        if not lines or rule.pick(3) == 0:
            n = rule.pick(len(clauses))
            lines.append(("given", n))
            told.append(clauses[n])
            continue
        first = rule.pick(len(lines))
        clause, steps = told[first], []
        for _ in range(40):
            other = rule.pick(len(lines))
            variable = 1 + rule.pick(5)
            next_clause = told_resolvent(clause, told[other], variable)
            if next_clause is not None and len(steps) < 3:
                clause = next_clause
                steps.append((variable, other))
        if steps:
            lines.append(("chain", first, tuple(steps)))
            told.append(clause)
    return tuple(lines), tuple(told)


def messed(rule, clauses, lines):
    """Lines that say the same, with such among them that nothing needs, and with given ones twice."""
    told, places = [], {}

    def place_of(at):
        if lines[at][0] == "given" and rule.pick(2):
            told.append(lines[at])
            return len(told) - 1
        return places[at]

    for at, line in enumerate(lines):
        if rule.pick(3) == 0:
            told.append(("given", rule.pick(len(clauses))))
        if line[0] == "chain":
            line = ("chain", place_of(line[1]), tuple((variable, place_of(n)) for variable, n in line[2]))
        places[at] = len(told)
        told.append(line)
    return tuple(told)


class Resolvents(unittest.TestCase):
    def test_by_hand(self):
        for one, other, variable, told in (
            ((1,), (-1,), 1, ()), ((-1,), (1,), 1, ()), ((1, 2), (-1, 2), 1, (2,)), ((1, 2), (-1, 3), 1, (2, 3)),
            ((1, -3), (-1, 2, -4), 1, (2, -3, -4)), ((1, 2), (-1, -2), 1, None), ((1, 2), (-1, -2), 2, None),
            ((1,), (1,), 1, None), ((1,), (2,), 1, None), ((1,), (-1,), 2, None), ((), (1,), 1, None), ((1,), (), 1, None),
            ((), (), 1, None), ((1, 2), (2, 3), 2, None), ((1, 5), (-5, 7), 5, (1, 7)), ([1, 5], [-5, 7], 5, (1, 7)),
            ((-2, 9), (2, 9), 2, (9,)), ((1, 2, 3), (-2,), 2, (1, 3)), ((1, 2), (-1, 2), 2, None),
        ):
            self.assertEqual(resolvent(one, other, variable), told, (one, other, variable))

    def test_all_clauses_of_three_variables(self):
        clauses = [tuple(n * sign for n, sign in zip((1, 2, 3), signs) if sign) for signs in product((0, 1, -1), repeat=3)]
        for one, other in product(clauses, repeat=2):
            for variable in (1, 2, 3, 4):
                told = resolvent(one, other, variable)
                self.assertEqual(told, told_resolvent(one, other, variable))
                if told is not None:
                    for bits in all_bits(3):
                        self.assertTrue(not is_true(bits, one) or not is_true(bits, other) or is_true(bits, told))


class Lines(Asking, unittest.TestCase):
    def test_by_hand(self):
        self.assertEqual(line_clauses(CLAUSES, REFUTATION), (*CLAUSES[:4], (2,), (1,), ()))
        self.assertEqual(line_clauses([list(clause) for clause in CLAUSES], REFUTATION), (*CLAUSES[:4], (2,), (1,), ()))
        self.assertEqual(line_clauses(CLAUSES, ()), ())
        self.assertEqual(line_clauses((), ()), ())
        self.assertEqual(line_clauses(((),), (("given", 0),)), ((),))
        self.assertEqual(line_clauses(CLAUSES, (("given", 4), ("given", 4))), ((3,), (3,)))

    def test_what_lines_tell_follows(self):
        """Fact A."""
        for number in range(80):
            rule = Rule(number + 2600)
            clauses = some_clauses(rule, 5, 8)
            lines, told = some_lines(rule, clauses, 25)
            self.assertEqual(line_clauses(clauses, lines), told)
            for bits in all_bits(5):
                if all(is_true(bits, clause) for clause in clauses):
                    self.assertTrue(all(is_true(bits, clause) for clause in told))

    def test_wrong_lines(self):
        wrong = (
            (("given", 5),), (("given", -1),), (("given", True),), (("given", False),), (("given", 0.0),), (("given", None),),
            (("given",),), (("given", 0, ()),), (["given", 0],), [("given", 0)], (("Given", 0),), (("taken", 0),), ((),), (("given", (0,)),),
            (("chain", 0, ((1, 0),)),), (("given", 0), ("chain", 0, ())), (("given", 0), ("given", 1), ("chain", 0, ((1, 2),))),
            (("given", 0), ("given", 1), ("chain", 2, ((1, 1),))), (("given", 0), ("given", 1), ("chain", -2, ((1, 1),))),
            (("given", 0), ("given", 1), ("chain", 0, ((1, -1),))), (("given", 0), ("given", 1), ("chain", 0, ((-1, 1),))),
            (("given", 0), ("given", 1), ("chain", 0, ((2, 1),))), (("given", 0), ("given", 1), ("chain", 0, ((0, 1),))),
            (("given", 0), ("given", 1), ("chain", 0, ((3, 1),))), (("given", 0), ("given", 3), ("chain", 0, ((1, 1),))),
            (("given", 0), ("given", 1), ("chain", 0, [(1, 1)])), (("given", 0), ("given", 1), ("chain", 0, ([1, 1],))),
            (("given", 0), ("given", 1), ("chain", 0, ((True, 1),))), (("given", 0), ("given", 1), ("chain", 0, ((1, True),))),
            (("given", 0), ("given", 1), ("chain", False, ((1, 1),))), (("given", 0), ("given", 1), ("chain", 0, ((1.0, 1),))),
            (("given", 0), ("given", 1), ["chain", 0, ((1, 1),)]), (("given", 0), ("given", 1), ("chain", 0, ((1, 1, 1),))),
            (("given", 0), ("given", 1), ("chain", 0, ((1,),))), (("given", 0), ("given", 1), ("chain", 0, ((1, 1),), 0)),
            (("given", 0), ("given", 1), ("chain", 0)), (("given", 0), ("given", 1), ("chain", 0, 1)),
            (("given", 0), ("given", 1), ("chain", 0, ((1, 1), (1, 1)))), ("given", 0), "given", 0, None, {},
            (("given", 0), ("given", 1), ("chain", 0, ((1, 1), (2, 1)))), (("given", 0), ("given", 1), ("chain", 0, (1, 1))),
        )
        for lines in wrong:
            self.assertFails(BadRow, {"row": lines}, line_clauses, CLAUSES, lines)
            self.assertFails(BadRow, {"row": lines}, roots_of, CLAUSES, lines)
            self.assertFails(BadRow, {"row": lines}, drawn, CLAUSES, lines)
            self.assertIs(is_refutation(CLAUSES, lines), False)
            self.assertIs(is_refutation(CLAUSES, lines, (-1, -2, -3)), False)

    def test_anything_in_each_place(self):
        chain = REFUTATION[4]
        right = 0
        for value in anything():
            for lines in (value, (value,), (*REFUTATION[:4], value), placed(REFUTATION[:6], 5, value), (("given", value),),
                          (*REFUTATION[:4], (value, 0, ((1, 1),))), (*REFUTATION[:4], placed(chain, 1, value)),
                          (*REFUTATION[:4], placed(chain, 2, value)), (*REFUTATION[:4], placed(chain, 2, (value,))),
                          (*REFUTATION[:4], placed(chain, 2, ((value, 1),))), (*REFUTATION[:4], placed(chain, 2, ((1, value),)))):
                told = plain_clauses(CLAUSES, lines)
                self.assertIs(is_refutation(CLAUSES, lines), is_plain_refutation(CLAUSES, lines))
                if told is None:
                    self.assertFails(BadRow, {"row": lines}, line_clauses, CLAUSES, lines)
                    self.assertFails(BadRow, {"row": lines}, roots_of, CLAUSES, lines)
                    self.assertFails(BadRow, {"row": lines}, drawn, CLAUSES, lines)
                else:
                    right += 1
                    self.assertEqual(line_clauses(CLAUSES, lines), told)
        self.assertGreater(right, 3)


class Refutations(unittest.TestCase):
    def test_right_ones(self):
        self.assertIs(is_refutation(CLAUSES, REFUTATION), True)
        self.assertIs(is_refutation(list(CLAUSES), REFUTATION, []), True)
        self.assertIs(is_refutation(((1,), ()), (("given", 1),)), True)
        self.assertIs(is_refutation(CLAUSES, REFUTATION[:5]), False)
        self.assertIs(is_refutation(CLAUSES, ()), False)
        self.assertIs(is_refutation(CLAUSES, (*REFUTATION, ("given", 0))), False)

    def test_assumed_literals(self):
        for assumed, told in (((), False), ((-2,), True), ((2,), False), ((-1, -2), True), ([-2, 1], True), ((1,), False)):
            self.assertIs(is_refutation(CLAUSES, REFUTATION[:5], assumed), told)
        self.assertIs(is_refutation(CLAUSES, (("given", 0),), (-2, -1)), True)
        self.assertIs(is_refutation(CLAUSES, (("given", 0),), (-1,)), False)
        self.assertIs(is_refutation(CLAUSES, (("given", 4),), (-3,)), True)
        self.assertIs(is_refutation(CLAUSES, (), (-1, -2, -3)), False)
        self.assertIs(is_refutation(CLAUSES, REFUTATION, (1,)), True)

    def test_each_with_one_thing_bent(self):
        """What is bent may be a refutation still; then it must be one by the words of the document."""
        others = (0, 1, 2, 3, 4, 5, 6, 7, -1, True, False, None, "0", 1.0, (), ((1, 1),), [(1, 1)], Own(), Sly())
        taken = 0
        for path in paths(REFUTATION):
            for value in others:
                lines = bent(REFUTATION, path, value)
                wanted = is_plain_refutation(CLAUSES, lines)
                self.assertIs(is_refutation(CLAUSES, lines), wanted, path)
                taken += wanted
            part = REFUTATION
            for place in path:
                part = part[place]
            if isinstance(part, tuple):
                for k in range(len(part)):
                    for lines in (bent(REFUTATION, path, part[:k] + part[k + 1:]), bent(REFUTATION, path, (*part[:k], part[k], *part[k:]))):
                        self.assertIs(is_refutation(CLAUSES, lines), is_plain_refutation(CLAUSES, lines))
                self.assertIs(is_refutation(CLAUSES, bent(REFUTATION, path, list(part))), False)
        self.assertGreater(taken, 10)

    def test_no_assignment_is_left(self):
        for number in range(150):
            rule = Rule(number + 2700)
            clauses = some_clauses(rule, 5, 14)
            lines, told = some_lines(rule, clauses, 60)
            for n in range(len(lines)):
                assumed = tuple(n * rule.one_of((1, -1)) for n in range(1, 6) if rule.pick(3) == 0)
                wanted = all(-literal in assumed for literal in told[n])
                self.assertIs(is_refutation(clauses, lines[:n + 1], assumed), wanted)
                if wanted:
                    for bits in all_bits(5):
                        self.assertFalse(all(is_true(bits, clause) for clause in (*clauses, *[(n,) for n in assumed])))


def paths(value, path=()):
    """The places of all parts of a tuple, itself ahead."""
    yield path
    if isinstance(value, tuple):
        for place, part in enumerate(value):
            yield from paths(part, (*path, place))


def bent(value, path, other):
    return placed(value, path[0], bent(value[path[0]], path[1:], other)) if path else other


def plain_clauses(clauses, lines):
    """The clauses of all lines, once more, apart from the program; None for what is no lines."""
    told = []
    if lines.__class__ is not tuple:
        return None
    for line in lines:
        if line.__class__ is not tuple or not line or line[0].__class__ is not str:
            return None
        if line[0] == "given":
            if len(line) != 2 or line[1].__class__ is not int or not 0 <= line[1] < len(clauses):
                return None
            told.append(clauses[line[1]])
            continue
        if line[0] != "chain" or len(line) != 3 or line[1].__class__ is not int or not 0 <= line[1] < len(told):
            return None
        clause = told[line[1]]
        if line[2].__class__ is not tuple or not line[2]:
            return None
        for step in line[2]:
            if step.__class__ is not tuple or [part.__class__ for part in step] != [int, int]:
                return None
            if step[0] < 1 or not 0 <= step[1] < len(told):
                return None
            clause = told_resolvent(clause, told[step[1]], step[0])
            if clause is None:
                return None
        told.append(clause)
    return tuple(told)


def is_plain_refutation(clauses, lines):
    """Whether a value is a refutation, once more, apart from the program."""
    told = plain_clauses(clauses, lines)
    return told is not None and told[-1:] == ((),)


class Needed(Asking, unittest.TestCase):
    def test_by_hand(self):
        lines = (("given", 4), ("given", 1), ("given", 0), ("given", 1), ("chain", 2, ((1, 3),)), ("chain", 2, ((1, 1),)),
                 ("given", 2), ("chain", 6, ((2, 4),)), ("given", 3), ("chain", 8, ((1, 7), (2, 5))))
        self.assertEqual(roots_of(CLAUSES, lines), (0, 1, 2, 3))
        self.assertEqual(drawn(CLAUSES, lines), (
            ("given", 1), ("given", 0), ("chain", 1, ((1, 0),)), ("chain", 1, ((1, 0),)), ("given", 2), ("chain", 4, ((2, 2),)),
            ("given", 3), ("chain", 6, ((1, 5), (2, 3)))))
        self.assertEqual((roots_of(CLAUSES, lines[:6]), roots_of(CLAUSES, lines[:1])), ((0, 1), (4,)))
        self.assertEqual(drawn(CLAUSES, lines[:6]), (("given", 1), ("given", 0), ("chain", 1, ((1, 0),))))
        self.assertEqual(drawn(CLAUSES, lines[:4]), (("given", 1),))
        self.assertEqual(drawn(CLAUSES, (("given", 1), ("given", 1))), (("given", 1),))
        self.assertEqual(drawn(CLAUSES, REFUTATION), REFUTATION)

    def test_no_lines(self):
        for call in (roots_of, drawn):
            self.assertFails(BadRow, {"row": ()}, call, CLAUSES, ())
            for value in anything():
                if not plain_clauses(CLAUSES, value):
                    self.assertFails(BadRow, {"row": value}, call, CLAUSES, value)

    def hold(self, clauses, lines):
        """What the last line needs, by going back from it; tells how many lines that leaves out, and how many alike ones."""
        needed, waiting = set(), [len(lines) - 1]
        while waiting:
            at = waiting.pop()
            if at not in needed:
                needed.add(at)
                if lines[at][0] == "chain":
                    waiting.extend((lines[at][1], *[step[1] for step in lines[at][2]]))
        roots = sorted({lines[at][1] for at in needed if lines[at][0] == "given"})
        self.assertEqual(roots_of(clauses, lines), tuple(roots))
        self.assertEqual(roots_of([list(clause) for clause in clauses], lines), tuple(roots))
        order = [at for at in sorted(needed) if lines[at][0] == "chain" or not any(
            lines[other] == lines[at] for other in needed if other < at)]

        def place_of(at):
            return order.index(at) if at in order else [lines[other] for other in order].index(lines[at])

        wanted = tuple(lines[at] if lines[at][0] == "given" else (
            "chain", place_of(lines[at][1]), tuple((variable, place_of(n)) for variable, n in lines[at][2])) for at in order)
        short = drawn(clauses, lines)
        self.assertEqual(short, wanted)
        self.assertEqual(drawn(clauses, short), short)
        self.assertEqual(roots_of(clauses, short), tuple(roots))
        self.assertEqual(line_clauses(clauses, short)[-1], line_clauses(clauses, lines)[-1])
        return len(lines) - len(needed), len(needed) - len(order)

    def test_over_many_lines(self):
        less, twice = 0, 0
        for number in range(120):
            rule = Rule(number + 2800)
            clauses = some_clauses(rule, 5, 8)
            self.hold(clauses, some_lines(rule, clauses, 30)[0])
            many, clauses = pigeons(*rule.one_of(((3, 2), (4, 3), (5, 4))))
            lines = messed(rule, clauses, solve(many, clauses).lines)
            one, other = self.hold(clauses, lines)
            less, twice = less + (one > 0), twice + (other > 0)
        self.assertTrue(less > 50 and twice > 50, (less, twice))

    def test_what_the_solver_tells(self):
        for number in range(60):
            clauses = some_clauses(Rule(number + 2900), 5, 30)
            told = solve(5, clauses)
            if isinstance(told, Barred):
                self.assertEqual(drawn(clauses, told.lines), told.lines)
                left = [clauses[n] for n in roots_of(clauses, told.lines)]
                self.assertFalse(any(all(is_true(bits, clause) for clause in left) for bits in all_bits(5)))


if __name__ == "__main__":
    unittest.main()
