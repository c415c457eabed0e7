"""[46], [47], [48]: breaks of a machine of at most so many cycles."""

import unittest

from everycycle.bounded import (
    Broken, FirstBreak, NoBreak, break_lot, cut_out, first_break, is_break, is_first_break, one_cycle,
)
from everycycle.clauses import Machine, breaks, clause_of, clauses_of, played, unrolled
from everycycle.errors import BadNumber
from everycycle.graphs import Graph, node_values, or_of
from everycycle.lines import is_refutation
from everycycle.solver import Found, solve
from tests.anything import Own, anything, placed
from tests.asking import Asking
from tests.fixed import Rule
from tests.keeping import Keeping
from tests.nets import all_bits
from tests.test_clauses import is_true
from tests.test_graphs import is_int, is_row
from tests.test_lines import bent, paths
from tests.test_machines import ARGUMENTS, GRAPH
from tests.walks import (
    counter, doubled, free_machine, is_break_by, least_cycles, many_machines, plain_machines, played_by, table_of,
)

HAND = Machine(*ARGUMENTS)
HAND_BREAK = ((0, 0), (1, 1), (0, 0))


def all_rows(machine, cycles):
    """All rows of inputs of so many cycles."""
    for bits in all_bits(machine.inputs * cycles):
        yield tuple(bits[k * machine.inputs:(k + 1) * machine.inputs] for k in range(cycles))


class Objects(Keeping, unittest.TestCase):
    def test_what_they_keep(self):
        self.assertKeeps(Broken, "rows")
        self.assertKeeps(FirstBreak, "rows", "papers")
        self.assertKeeps(NoBreak, "papers")


class Breaks(unittest.TestCase):
    def test_one_cycle(self):
        many = 0
        for machine in (*many_machines(40, 5000), *plain_machines()):
            for state, rows in table_of(machine).items():
                start = Machine(machine.graph, machine.inputs, state, machine.nexts, machine.wish)
                for inputs, told in rows.items():
                    self.assertEqual(one_cycle(machine, state, inputs), told)
                    self.assertEqual(one_cycle(machine, list(state), list(inputs)), told)
                    plays = played(start, (inputs, inputs))
                    self.assertEqual(told, (plays[1][0], plays[0][1]))
                    self.assertIs(one_cycle(machine, state, inputs)[0].__class__, tuple)
                    many += told[1]
        self.assertGreater(many, 300)

    def test_by_hand(self):
        self.assertEqual(one_cycle(HAND, (0, 1), (1, 1)), ((1, 0), 1))
        self.assertEqual(one_cycle(HAND, (1, 1), (0, 1)), ((0, 0), 0))
        for rows, told in ((HAND_BREAK, True), (HAND_BREAK[:2], False), (HAND_BREAK[:1], False), ((), False),
                           ((*HAND_BREAK, (0, 0)), False), ((*HAND_BREAK, (0, 0), (1, 1), (1, 1)), False),
                           (((0, 0), *HAND_BREAK), False), (((1, 1), (1, 1), (1, 0)), True), (((0, 1), (1, 1), (1, 0)), True)):
            self.assertIs(is_break(HAND, rows), told, rows)
            self.assertIs(breaks(HAND, rows), told)
            self.assertIs(is_break(HAND, list(rows)), False)
            if rows:
                self.assertIs(is_break(HAND, tuple(list(row) for row in rows)), False)
                self.assertIs(is_break(HAND, (*rows[:-1], list(rows[-1]))), False)
        never = Machine(GRAPH, 2, (0, 1), (10, 9), 0)
        self.assertIs(is_break(never, ((0, 1),)), True)
        self.assertIs(is_break(never, ((0, 1), (0, 0))), False)
        self.assertIs(is_break(never, ()), False)
        empty = Machine(Graph(0, ()), 0, (), (), 0)
        for rows, told in (((), False), (((),), True), (((), ()), False), (([],), False), ([()], False), ([[]], False)):
            self.assertIs(is_break(empty, rows), told)

    def test_all_rows_of_small_machines(self):
        found = 0
        for machine in many_machines(60, 5100):
            table = table_of(machine)
            for cycles in range(4):
                for rows in all_rows(machine, cycles):
                    told = is_break_by(machine, table, rows)
                    self.assertIs(is_break(machine, rows), told)
                    found += told
        self.assertGreater(found, 100)

    def test_anything(self):
        right = 0
        for value in anything():
            for rows in (value, (value,), *[placed(HAND_BREAK, k, value) for k in range(3)], (*HAND_BREAK, value),
                         *[placed(HAND_BREAK, k, placed(HAND_BREAK[k], n, value)) for k in range(3) for n in range(2)]):
                kinds = rows.__class__ is tuple and all(
                    row.__class__ is tuple and len(row) == 2 and all(is_int(bit, 0, 1) for bit in row) for row in rows)
                told = is_break(HAND, rows)
                self.assertIs(told, kinds and breaks(HAND, rows))
                right += told
        self.assertGreater(right, 5)


class Lots(unittest.TestCase):
    def hold(self, machine, table, many):
        """The lot of so many cycles must be right; tells whether it can be satisfied."""
        told = break_lot(machine, many)
        self.assertEqual((told.__class__, len(told)), (tuple, 2))
        variables, clauses = told
        self.assertEqual(break_lot(machine, many), told)
        whole = unrolled(machine, many, False)
        self.assertEqual(variables, whole.graph.leaves + len(whole.graph.gates))
        last = clause_of((whole.wishes[-1] ^ 1,))
        self.assertEqual(clauses, (*clauses_of(whole.graph), *(() if last is None else (last,))))
        self.assertTrue(all(clause.__class__ is tuple for clause in clauses))
        wanted = False
        for rows in all_rows(machine, many):
            assignment = node_values(whole.graph, [bit for row in rows for bit in row])[1:]
            falls = played_by(machine, table, rows)[-1][1] == 0
            self.assertIs(all(is_true(assignment, clause) for clause in clauses), falls)
            wanted = wanted or falls
        self.assertIs(solve(variables, clauses).__class__ is Found, wanted)
        return wanted

    def test_against_all_rows(self):
        """Fact A: it need not be the first time that the wish falls."""
        found = again = 0
        for machine in (*many_machines(60, 5200), *plain_machines()):
            table = table_of(machine)
            least = least_cycles(machine, table)
            for many in range(1, 5):
                told = self.hold(machine, table, many)
                found += told
                again += told and many > least
                if least is None or many < least:
                    self.assertIs(told, False)
                if many == least:
                    self.assertIs(told, True)
        self.assertTrue(found > 60 and again > 40, (found, again))

    def test_constant_wishes(self):
        for wish, last in ((1, ((),)), (0, ())):
            machine = Machine(GRAPH, 2, (0, 1), (10, 9), wish)
            variables, clauses = break_lot(machine, 2)
            self.assertEqual(clauses, (*clauses_of(unrolled(machine, 2, False).graph), *last))


def plain_first_break(machine, most, told):
    """Whether told is what first_break describes, apart from the program's own judge."""
    if told.__class__ is FirstBreak:
        rows, papers = told.rows, told.papers
        right = is_row_of_rows(rows, machine.inputs) and 0 < len(rows) <= most and is_break_by(machine, table_of(machine), rows)
        many = len(rows) - 1 if right else 0
    elif told.__class__ is NoBreak:
        papers, many, right = told.papers, most, True
    else:
        return False
    return right and papers.__class__ is tuple and len(papers) == many and all(
        is_refutation(break_lot(machine, k + 1)[1], paper) for k, paper in enumerate(papers))


def is_row_of_rows(value, many):
    return value.__class__ is tuple and all(
        row.__class__ is tuple and len(row) == many and all(is_int(bit, 0, 1) for bit in row) for row in value)


class First(Asking, unittest.TestCase):
    def hold(self, machine, most, least):
        told = first_break(machine, most)
        self.assertIs(told.__class__, NoBreak if least is None or least > most else FirstBreak)
        if told.__class__ is FirstBreak:
            self.assertEqual(len(told.rows), least)
        self.assertTrue(plain_first_break(machine, most, told))
        self.assertIs(is_first_break(machine, most, told), True)
        return told

    def test_against_a_search(self):
        counts = {}
        for machine in (*many_machines(160, 5300), *plain_machines()):
            least = least_cycles(machine, table_of(machine))
            for most in {1, 2, 4} if least is None else {max(1, least - 1), least, least + 1}:
                told = self.hold(machine, most, least)
                key = (told.__class__, least)
                counts[key] = counts.get(key, 0) + 1
        self.assertTrue(all(counts.get((FirstBreak, least), 0) > 2 for least in (1, 2, 3, 4, 5)), counts)
        self.assertGreater(counts[(NoBreak, None)], 40)

    def test_all_states_decide(self):
        """Fact B: 2 ** b cycles are enough."""
        for machine in many_machines(30, 5400, 1, 3):
            most = 2 ** len(machine.resets)
            self.hold(machine, most, least_cycles(machine, table_of(machine)))
        self.hold(counter(3, 0, 7, 7), 8, 8)
        self.hold(counter(3, 1, 7, 0), 8, 8)
        self.hold(counter(3, 0, 5, 7), 8, None)

    def test_by_hand(self):
        self.assertEqual(first_break(Machine(GRAPH, 2, (0, 1), (10, 9), 0), 3).papers, ())
        told = self.hold(HAND, 9, 3)
        self.assertEqual(len(told.papers), 2)
        for most in (1, 2):
            self.hold(HAND, most, 3)

    def test_right_ones_bent(self):
        first = first_break(HAND, 5)
        for told in (FirstBreak(HAND_BREAK, first.papers), FirstBreak(list(HAND_BREAK), list(first.papers)),
                     FirstBreak(((0, 1), (1, 1), (1, 0)), first.papers)):
            for most in (3, 4, 5):
                self.assertIs(is_first_break(HAND, most, told), True)
            for most in (1, 2):
                self.assertIs(is_first_break(HAND, most, told), False)
        papers = first.papers
        third = first_break(counter(2, 0, 3, 3), 3).papers[0]
        for rows, other in (
            (HAND_BREAK[:2], papers), ((*HAND_BREAK, (0, 0)), papers), (((1, 1), *HAND_BREAK), papers), ((), papers), ((), ()),
            (HAND_BREAK, papers[:1]), (HAND_BREAK, papers[1:]), (HAND_BREAK, ()), (HAND_BREAK, (*papers, papers[0])),
            (HAND_BREAK, papers[::-1]), (HAND_BREAK, (papers[0], papers[0])), (HAND_BREAK, (papers[1], papers[1])),
            (HAND_BREAK, (papers[0], third)), (HAND_BREAK, (papers[0], ())), (HAND_BREAK, (papers[0], None)), (HAND_BREAK, None),
            ([[0, 0], [1, 1], [0, 0]], papers), (HAND_BREAK, [list(paper) for paper in papers]), (None, papers), (HAND_BREAK, 2),
        ):
            told = FirstBreak(rows, other)
            self.assertEqual(is_first_break(HAND, 5, told), plain_first_break(HAND, 5, told))
            self.assertIs(is_first_break(HAND, 5, told), False, (rows, other))
        longer = FirstBreak(((1, 1), *HAND_BREAK), (*papers, papers[1]))
        self.assertIs(is_first_break(HAND, 5, longer), False)
        for told in (Broken(HAND_BREAK), NoBreak(papers), NoBreak(first_break(HAND, 2).papers), HAND_BREAK, papers):
            self.assertIs(is_first_break(HAND, 5, told), False)
        self.assertIs(is_first_break(HAND, 2, NoBreak(papers)), True)
        self.assertIs(is_first_break(HAND, 2, NoBreak(list(papers))), True)
        for most, other in ((1, papers), (3, papers), (2, papers[:1]), (2, papers[::-1]), (2, (*papers, papers[1])), (2, ()), (1, ())):
            self.assertIs(is_first_break(HAND, most, NoBreak(other)), False)
        self.assertIs(is_first_break(counter(2, 0, 3, 3), 2, NoBreak(papers)), False)

    def test_each_line_bent(self):
        first = first_break(HAND, 5)
        none = NoBreak(first.papers)
        right = wrong = 0
        for path in paths(first.papers):
            for value in (0, 1, -1, 2, True, None, "given", (), [], Own()):
                papers = bent(first.papers, path, value)
                for most, told in ((5, FirstBreak(HAND_BREAK, papers)), (2, NoBreak(papers))):
                    wanted = plain_first_break(HAND, most, told)
                    self.assertIs(is_first_break(HAND, most, told), wanted)
                    right, wrong = right + wanted, wrong + (not wanted)
        for path in paths(HAND_BREAK):
            for value in (0, 1, 2, True, None, (), (0, 1), [0, 0], [1]):
                told = FirstBreak(bent(HAND_BREAK, path, value), first.papers)
                self.assertIs(is_first_break(HAND, 3, told), plain_first_break(HAND, 3, told))
        self.assertTrue(right > 3 and wrong > 100, (right, wrong))
        self.assertIs(is_first_break(HAND, 2, none), True)
        papers = first_break(doubled(), 2).papers
        for path in list(paths(papers))[::3]:
            for value in (0, 1, True, None, "chain", (), []):
                told = NoBreak(bent(papers, path, value))
                self.assertIs(is_first_break(doubled(), 2, told), plain_first_break(doubled(), 2, told))

    def test_anything(self):
        first = first_break(HAND, 5)
        for value in (*anything(), FirstBreak, NoBreak, HAND):
            self.assertIs(is_first_break(HAND, 5, value), False)
            self.assertIs(is_first_break(HAND, 5, FirstBreak(value, first.papers)), False)
            self.assertIs(is_first_break(HAND, 5, FirstBreak(HAND_BREAK, value)), False)
            self.assertIs(is_first_break(HAND, 2, NoBreak(value)), False)
            for told in (FirstBreak(HAND_BREAK, (first.papers[0], value)), NoBreak((value, first.papers[1]))):
                self.assertIs(is_first_break(HAND, 5, told), False)
        never = Machine(GRAPH, 2, (0, 1), (10, 9), 0)
        for value in anything():
            right = is_row(value) and len(value) == 0
            self.assertIs(is_first_break(never, 1, FirstBreak(((0, 0),), value)), right)

    def test_wrong_numbers(self):
        for value in anything():
            if is_int(value, 1, 5):
                self.assertIs(first_break(HAND, value).__class__, NoBreak if value < 3 else FirstBreak)
            elif not is_int(value, 1, 10 ** 99):
                self.assertFails(BadNumber, {"what": "most", "number": value}, first_break, HAND, value)
                for told in (value, first_break(HAND, 3), None, NoBreak(())):
                    self.assertFails(BadNumber, {"what": "most", "number": value}, is_first_break, HAND, value, told)
        for value in (0, -1, True):
            self.assertFails(BadNumber, {"what": "most", "number": value}, first_break, HAND, value)

    def test_equal_calls_tell_the_same(self):
        for machine in many_machines(20, 5500):
            one, other = first_break(machine, 4), first_break(machine, 4)
            self.assertIs(one.__class__, other.__class__)
            self.assertEqual(vars(one), vars(other))


def plain_cut(machine, rows):
    """What cut_out must tell, step by step as it is described."""
    rows = list(rows)
    while True:
        states = [state for state, _ in played(machine, rows)]
        twice = [k for k, state in enumerate(states) if states.count(state) > 1]
        if not twice:
            return tuple(tuple(row) for row in rows)
        first = twice[0]
        last = max(k for k, state in enumerate(states) if state == states[first])
        del rows[first:last]


class CutOut(unittest.TestCase):
    # The state is what the inputs were in the cycle ahead; the wish falls where the state is 3 and the first input 1.
    WAYS = free_machine(2, lambda builder, ahead, now: or_of(builder, builder.and_of(now[0], now[1]) ^ 1, ahead[0] ^ 1))

    def ways(self, *numbers):
        return tuple((number & 1, number >> 1) for number in numbers)

    def test_by_hand(self):
        """The state ahead of each cycle is the number ahead of it, the first one 0."""
        for numbers, told in (
            ((3, 1), (3, 1)), ((0, 3, 1), (3, 1)), ((0, 0, 0, 3, 3), (3, 3)), ((1, 2, 1, 2, 3, 1), (1, 2, 3, 1)),
            ((1, 2, 0, 1, 3, 1), (1, 3, 1)), ((1, 2, 2, 2, 1, 3, 3), (1, 3, 3)), ((2, 1, 1, 2, 0, 2, 3, 1), (2, 3, 1)),
            ((2, 1, 2, 1, 3, 2, 3, 1), (2, 3, 1)), ((1, 3, 2, 2, 3, 0, 3, 3), (3, 3)), ((3, 2, 3, 2, 3, 1), (3, 1)),
        ):
            rows = self.ways(*numbers)
            self.assertTrue(is_break(self.WAYS, rows), numbers)
            self.assertEqual(cut_out(self.WAYS, rows), self.ways(*told), numbers)
            self.assertEqual(cut_out(self.WAYS, [list(row) for row in rows]), self.ways(*told))

    def test_long_breaks(self):
        shorter = 0
        for number in range(120):
            rule = Rule(number + 5600)
            machine = free_machine(3, lambda builder, ahead, now: builder.and_of(builder.and_of(now[0], now[1]), ahead[2]) ^ 1)
            rows = [tuple(rule.pick(2) for _ in range(3)) for _ in range(rule.pick(30))]
            rows = [row if row[:2] != (1, 1) else (1, 0, row[2]) for row in rows]
            rows = (*rows, (1, 1, rule.pick(2)), (0, rule.pick(2), 0), (1, 1, rule.pick(2)), (rule.pick(2), 0, 1))
            self.hold(machine, rows)
            shorter += len(cut_out(machine, rows)) < len(rows) - 2
        self.assertGreater(shorter, 60)

    def hold(self, machine, rows):
        self.assertTrue(is_break(machine, rows))
        before = [list(row) for row in rows]
        handed = [list(row) for row in rows]
        told = cut_out(machine, handed)
        self.assertEqual(handed, before)
        self.assertEqual(told, plain_cut(machine, rows))
        self.assertEqual(cut_out(machine, rows), told)
        self.assertTrue(is_break(machine, told))
        states = [state for state, _ in played(machine, told)]
        self.assertEqual(len(set(states)), len(states))
        self.assertLessEqual(len(told), 2 ** len(machine.resets))
        self.assertEqual(cut_out(machine, told), told)

    def test_cycles_in_which_nothing_moves(self):
        machine = counter(3, 1, 6, 5, 1)
        rows = ((0,), (1,), (0,), (0,), (1,), (1,), (1,), (0,))
        self.hold(machine, rows)
        self.assertEqual(cut_out(machine, rows), ((1,), (1,), (1,), (1,), (0,)))

    def test_breaks_of_many_machines(self):
        found = 0
        for machine in many_machines(80, 5700):
            table = table_of(machine)
            rule = Rule(found + 1)
            for _ in range(12):
                rows = []
                for _ in range(12):
                    rows.append(tuple(rule.pick(2) for _ in range(machine.inputs)))
                    if is_break_by(machine, table, rows):
                        self.hold(machine, tuple(rows))
                        found += 1
        self.assertGreater(found, 100)

    def test_least_breaks_stay(self):
        for machine in many_machines(60, 5800):
            told = first_break(machine, 8)
            if told.__class__ is FirstBreak:
                self.assertEqual(cut_out(machine, told.rows), told.rows)


if __name__ == "__main__":
    unittest.main()
