"""[51], [52], [53]: wishes that the last k cycles keep."""

import unittest

from everycycle.bounded import Broken, FirstBreak, NoBreak, break_lot, first_break, is_break
from everycycle.clauses import Machine
from everycycle.errors import BadNumber
from everycycle.graphs import Graph
from everycycle.lines import is_refutation
from everycycle.solver import Found, is_solved, solve
from everycycle.steps import KeptBySteps, OpenSteps, by_steps, is_by_steps, path_of, step_lot
from tests.anything import Own, anything, placed
from tests.asking import Asking
from tests.fixed import Rule
from tests.keeping import Keeping
from tests.nets import all_bits
from tests.test_bounded import is_row_of_rows, plain_first_break
from tests.test_clauses import is_true
from tests.test_graphs import is_int
from tests.test_lines import bent, paths
from tests.test_machines import ARGUMENTS, GRAPH
from tests.test_solver import are_right_clauses
from tests.walks import counter, doubled, least_cycles, many_machines, path_by, plain_machines, table_of

HAND = Machine(*ARGUMENTS)


def unlike_paths(table, state, k, ahead=()):
    """All rows of inputs of unlike paths of k + 1 cycles from a state with the wish 1 in all but the last, 0 in that."""
    for row, (behind, wish) in table[state].items():
        if k == 0 and wish == 0:
            yield (row,)
        if k > 0 and wish == 1 and behind not in (*ahead, state):
            for rest in unlike_paths(table, behind, k - 1, (*ahead, state)):
                yield (row, *rest)


def has_path(table, k):
    return any(True for state in table for _ in unlike_paths(table, state, k))


def is_open(machine, k, told):
    """Whether an OpenSteps is right, by the table."""
    state, rows = told.state, told.rows
    if not is_row_of_rows((state,), len(machine.resets)) or not is_row_of_rows(rows, machine.inputs) or len(rows) != k + 1:
        return False
    path = path_by(table_of(machine), state, rows)
    return [wish for _, wish in path] == [1] * k + [0] and len({ahead for ahead, _ in path}) == k + 1


def plain_by_steps(machine, k, told):
    """Whether told is what is_by_steps must let by, apart from it."""
    if told.__class__ is OpenSteps:
        return is_open(machine, k, told)
    if told.__class__ is KeptBySteps:
        return told.base.__class__ is tuple and len(told.base) == k and all(
            is_refutation(break_lot(machine, n + 1)[1], paper) for n, paper in enumerate(told.base)
        ) and is_refutation(step_lot(machine, k)[1], told.step)
    return told.__class__ is FirstBreak and plain_first_break(machine, k, told)


class Objects(Keeping, unittest.TestCase):
    def test_what_they_keep(self):
        self.assertKeeps(KeptBySteps, "base", "step")
        self.assertKeeps(OpenSteps, "state", "rows")


class Paths(unittest.TestCase):
    def test_by_hand(self):
        rows = ((1, 1), (0, 0), (1, 1))
        told = (((1, 1), 0), ((1, 0), 1), ((0, 1), 1))
        self.assertEqual(path_of(HAND, (1, 1), rows), told)
        self.assertEqual(path_of(HAND, [1, 1], [list(row) for row in rows]), told)
        self.assertEqual(path_of(HAND, (0, 0), ()), ())
        self.assertEqual(path_of(HAND, (0, 0), []), ())

    def test_against_the_tables(self):
        for machine in (*many_machines(60, 5900), *plain_machines()):
            table = table_of(machine)
            rule = Rule(len(table))
            for state in table:
                rows = tuple(tuple(rule.pick(2) for _ in range(machine.inputs)) for _ in range(rule.pick(6)))
                self.assertEqual(path_of(machine, state, rows), tuple(path_by(table, state, rows)))


class Lots(unittest.TestCase):
    def hold(self, machine, table, k):
        variables, clauses = told = step_lot(machine, k)
        self.assertEqual((told.__class__, clauses.__class__), (tuple, tuple))
        self.assertTrue(is_int(variables, 0, 10 ** 9))
        self.assertTrue(are_right_clauses(variables, clauses))
        self.assertTrue(all(clause.__class__ is tuple for clause in clauses))
        self.assertEqual(step_lot(machine, k), told)
        answer = solve(variables, clauses)
        wanted = has_path(table, k)
        self.assertIs(answer.__class__ is Found, wanted)
        self.assertIs(is_solved(variables, clauses, (), answer), True)
        return wanted

    def test_against_all_paths(self):
        """Fact C."""
        counts = {}
        for machine in (*many_machines(100, 6000), *plain_machines()):
            table = table_of(machine)
            for k in range(5):
                key = (k, self.hold(machine, table, k))
                counts[key] = counts.get(key, 0) + 1
        self.assertTrue(all(counts.get((k, told), 0) > 5 for k in range(4) for told in (True, False)), counts)

    def test_assignments_of_small_lots(self):
        """Some assignment of just so many variables satisfies the clauses exactly if there is a path."""
        small = 0
        for machine in plain_machines():
            for k in (0, 1):
                variables, clauses = step_lot(machine, k)
                if variables <= 12:
                    right = any(all(is_true(bits, clause) for clause in clauses) for bits in all_bits(variables))
                    self.assertIs(right, has_path(table_of(machine), k))
                    small += 1
        self.assertGreater(small, 100)

    def test_without_registers(self):
        for wish, told in ((0, True), (1, False), (2, True)):
            machine = Machine(Graph(1, ()), 1, (), (), wish)
            self.assertIs(self.hold(machine, table_of(machine), 0), told)
            for k in (1, 2, 3):
                self.assertIs(self.hold(machine, table_of(machine), k), False)


class BySteps(Asking, unittest.TestCase):
    def hold(self, machine, k):
        """by_steps must tell the right one of the three; tells its class."""
        table = table_of(machine)
        least = least_cycles(machine, table)
        told = by_steps(machine, k)
        if least is not None and least <= k:
            wanted = FirstBreak
            self.assertEqual(len(told.rows), least)
        else:
            wanted = OpenSteps if has_path(table, k) else KeptBySteps
        self.assertIs(told.__class__, wanted)
        self.assertTrue(plain_by_steps(machine, k, told))
        self.assertIs(is_by_steps(machine, k, told), True)
        if wanted is KeptBySteps:
            # Fact D.
            self.assertIsNone(least)
            self.assertEqual(len(told.base), k)
        return wanted

    def test_against_a_search(self):
        counts = {}
        for machine in (*many_machines(120, 6100), *plain_machines()):
            kinds = []
            for k in range(5):
                kinds.append(self.hold(machine, k))
                counts[(k, kinds[-1])] = counts.get((k, kinds[-1]), 0) + 1
            if KeptBySteps in kinds:
                # Fact E.
                self.assertEqual(set(kinds[kinds.index(KeptBySteps):]), {KeptBySteps})
        self.assertTrue(all(counts.get((k, kind), 0) > 3 for k in range(1, 4) for kind in (FirstBreak, KeptBySteps, OpenSteps)), counts)
        self.assertEqual(counts.get((0, FirstBreak), 0), 0)

    def test_all_states_decide(self):
        """Fact E: with k = 2 ** b there is no open path."""
        for machine in many_machines(40, 6200, 2, 3):
            self.assertIn(self.hold(machine, 2 ** len(machine.resets)), (FirstBreak, KeptBySteps))
        # A counter that does not come to its broken number, which a long way outside leads to.
        machine = counter(3, 0, 1, 7)
        self.assertEqual([self.hold(machine, k) for k in range(7)], [OpenSteps] * 6 + [KeptBySteps])
        machine = counter(3, 0, 7, 7, 1)
        self.assertEqual([self.hold(machine, k) for k in range(9)], [OpenSteps] * 8 + [FirstBreak])

    def test_by_hand(self):
        never = Machine(GRAPH, 2, (0, 1), (10, 9), 0)
        self.assertEqual([self.hold(never, k) for k in range(3)], [OpenSteps, FirstBreak, FirstBreak])
        always = Machine(GRAPH, 2, (0, 1), (10, 9), 1)
        self.assertEqual([self.hold(always, k) for k in range(3)], [KeptBySteps] * 3)
        self.assertEqual([self.hold(HAND, k) for k in range(5)], [OpenSteps] * 3 + [FirstBreak] * 2)

    def test_a_path_is_let_by_without_looking_for_breaks(self):
        told = OpenSteps((1, 0), ((1, 1), (0, 0)))
        self.assertIs(is_break(HAND, first_break(HAND, 3).rows), True)
        self.assertIs(is_by_steps(HAND, 1, told), True)
        told = OpenSteps((0, 0), ((0, 1), (1, 1), (1, 0)))
        self.assertEqual(path_of(HAND, told.state, told.rows), (((0, 0), 1), ((0, 1), 1), ((1, 0), 1)))
        self.assertIs(is_by_steps(HAND, 2, told), False)
        never = Machine(GRAPH, 2, (0, 1), (10, 9), 0)
        self.assertIs(is_by_steps(never, 0, OpenSteps((1, 1), ((1, 1),))), True)
        self.assertIs(is_by_steps(counter(2, 0, 3, 3), 3, OpenSteps((0, 0), ((), (), (), ()))), True)
        self.assertIs(is_by_steps(counter(2, 0, 3, 2), 3, OpenSteps((1, 1), ((), (), (), ()))), True)

    def test_paths_bent(self):
        right = wrong = 0
        for machine, k, told in ((HAND, 1, OpenSteps((1, 0), ((1, 1), (0, 0)))), (counter(2, 0, 3, 3, 1), 2, None)):
            told = told or by_steps(machine, k)
            for path in paths((told.state, told.rows)):
                for value in (0, 1, 2, -1, True, False, None, "", (), [], (0, 0), [0], [1, 1], (1, 1), ((1,),), Own()):
                    state, rows = bent((told.state, told.rows), path, value) if path else (value, value)
                    other = OpenSteps(state, rows)
                    wanted = plain_by_steps(machine, k, other)
                    self.assertIs(is_by_steps(machine, k, other), wanted, path)
                    right, wrong = right + wanted, wrong + (not wanted)
            for state, rows, least in (
                (list(told.state), list(told.rows), True), (told.state, [list(row) for row in told.rows], False),
                (told.state, told.rows[:-1], False), (told.state, (*told.rows, told.rows[0]), False), (told.state[:-1], told.rows, False),
                ((*told.state, 0), told.rows, False), (told.state, (*told.rows[:-1], (*told.rows[-1], 0)), False),
            ):
                self.assertIs(is_by_steps(machine, k, OpenSteps(state, rows)), least)
            for other in range(4):
                self.assertIs(is_by_steps(machine, other, told), other == k)
        self.assertTrue(right > 3 and wrong > 50, (right, wrong))

    def test_paths_with_a_state_twice(self):
        machine = counter(2, 0, 3, 3, 1)
        self.assertIs(is_by_steps(machine, 2, OpenSteps((1, 0), ((1,), (1,), (0,)))), True)
        self.assertIs(is_by_steps(machine, 3, OpenSteps((1, 0), ((1,), (0,), (1,), (0,)))), False)
        self.assertIs(is_by_steps(machine, 2, OpenSteps((0, 0), ((1,), (1,), (0,)))), False)

    def test_all_small_paths(self):
        for machine in many_machines(16, 6300, 1, 2):
            for state in all_bits(len(machine.resets)):
                for k in range(3):
                    for bits in all_bits(machine.inputs * (k + 1)):
                        rows = tuple(bits[n * machine.inputs:(n + 1) * machine.inputs] for n in range(k + 1))
                        told = OpenSteps(state, rows)
                        self.assertIs(is_by_steps(machine, k, told), is_open(machine, k, told))


class Bent(Asking, unittest.TestCase):
    def setUp(self):
        self.machine = doubled()
        self.k = 3
        self.told = by_steps(self.machine, self.k)

    def hold(self, told, wanted=False):
        self.assertIs(plain_by_steps(self.machine, self.k, told), wanted)
        self.assertIs(is_by_steps(self.machine, self.k, told), wanted)

    def test_papers(self):
        base, step = self.told.base, self.told.step
        self.hold(KeptBySteps(base, step), True)
        self.hold(KeptBySteps(list(base), list(step)), True)
        for other in (base[:-1], (*base, base[-1]), base[1:], (), (base[0],) * 3, base[::-1], (*base[:2], step), (*base[:2], ()),
                      (*base[:2], None), [list(paper) for paper in base], None, 3):
            self.hold(KeptBySteps(other, step))
        for other in ((), base[2], None, 3, [list(line) for line in step], step[:-1], by_steps(self.machine, 4).step):
            self.hold(KeptBySteps(base, other))
        for k in (2, 4):
            self.assertIs(is_by_steps(self.machine, k, self.told), False)
        self.assertIs(is_by_steps(counter(2, 0, 1, 2, 2), 3, self.told), False)

    def test_one_kind_for_another(self):
        base, step = self.told.base, self.told.step
        for told in (OpenSteps(base, step), FirstBreak(base, step), NoBreak(base), Broken(base), Found(base), (base, step)):
            self.hold(told)
        self.machine, self.k = counter(2, 0, 3, 3), 4
        first = by_steps(self.machine, 4)
        self.hold(first, True)
        self.hold(FirstBreak(first.rows, list(first.papers)), True)
        self.hold(FirstBreak(first.rows, first.papers[:-1]))
        self.hold(FirstBreak(first.rows[:-1], first.papers))
        self.hold(KeptBySteps(first.papers, first.papers[-1][:-1]))
        self.hold(OpenSteps((0, 0), first.rows))
        self.k = 3
        self.hold(first)
        self.hold(OpenSteps((0, 0), first.rows), True)

    def test_each_line_bent(self):
        right = wrong = 0
        for path in list(paths((self.told.base, self.told.step)))[::3]:
            for value in (0, 1, -1, True, None, "given", (), [], Own()):
                changed = bent((self.told.base, self.told.step), path, value)
                if isinstance(changed, tuple) and len(changed) == 2:
                    told = KeptBySteps(*changed)
                    wanted = plain_by_steps(self.machine, self.k, told)
                    self.assertIs(is_by_steps(self.machine, self.k, told), wanted)
                    right, wrong = right + wanted, wrong + (not wanted)
        self.assertGreater(wrong, 100)

    def test_anything(self):
        base, step = self.told.base, self.told.step
        for value in anything():
            self.hold(value)
            self.hold(KeptBySteps(value, step))
            self.hold(KeptBySteps(base, value))
            self.hold(KeptBySteps(placed(base, 1, value), step))
            self.hold(KeptBySteps(base, (*step, value)))
            self.hold(FirstBreak(value, base))
            for told in (OpenSteps(value, ((1, 0),) * 4), OpenSteps((1, 0), value), OpenSteps((1, value), ((1, 0),) * 4),
                         OpenSteps((1, 0), ((1, 0), (1, 0), (1, 0), value))):
                self.assertIs(is_by_steps(self.machine, self.k, told), plain_by_steps(self.machine, self.k, told))

    def test_wrong_numbers(self):
        for value in anything():
            if is_int(value, 0, 5):
                self.assertIn(by_steps(self.machine, value).__class__, (OpenSteps, KeptBySteps))
            elif not is_int(value, 0, 10 ** 99):
                self.assertFails(BadNumber, {"what": "k", "number": value}, by_steps, self.machine, value)
                for told in (value, self.told, None, OpenSteps((), ())):
                    self.assertFails(BadNumber, {"what": "k", "number": value}, is_by_steps, self.machine, value, told)

    def test_equal_calls_tell_the_same(self):
        for machine in many_machines(20, 6400):
            for k in (0, 2):
                one, other = by_steps(machine, k), by_steps(machine, k)
                self.assertIs(one.__class__, other.__class__)
                self.assertEqual(vars(one), vars(other))


if __name__ == "__main__":
    unittest.main()
