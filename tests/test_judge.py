"""[63], [64], [65]: certificates."""

import unittest

from everycycle.bounded import FirstBreak, first_break
from everycycle.clauses import Machine, behind, clause_of, clauses_of, now
from everycycle.graphs import Graph, node_values
from everycycle.judge import Kept, against, against_wish, given_of, is_kept, lessened
from everycycle.lines import drawn, is_refutation, roots_of
from everycycle.solver import Barred, solve
from tests.anything import Own, anything, placed
from tests.fixed import Rule
from tests.keeping import Keeping
from tests.nets import all_bits
from tests.test_clauses import is_true
from tests.test_lines import bent, messed, paths
from tests.test_machines import ARGUMENTS, GRAPH
from tests.test_solver import are_right_clauses
from tests.walks import counter, doubled, least_cycles, many_machines, plain_machines, states_come_to, table_of

HAND = Machine(*ARGUMENTS)


def paper_of(machine, clauses, assumed):
    """A refutation under what is assumed, None where nothing is; a wrong one where there is none."""
    if assumed is None:
        return None
    many = machine.graph.leaves + len(machine.graph.gates)
    told = solve(many, given_of(machine, clauses), assumed)
    return told.lines if isinstance(told, Barred) else ()


def kept_with(machine, clauses):
    """The Kept with these clauses, with papers wherever there are any."""
    papers = [paper_of(machine, clauses, against(machine, clause)) for clause in clauses]
    return Kept(tuple(clauses), (*papers, paper_of(machine, clauses, against_wish(machine))))


def not_clause(state):
    return tuple(-n if bit else n for n, bit in enumerate(state, 1))


def clauses_come_to(machine, table):
    """A clause for each state that reset does not lead to, by a search."""
    seen = set().union(*states_come_to(machine, table))
    return tuple(not_clause(state) for state in table if state not in seen)


def certificates(many, first, most_inputs=2, most_registers=3):
    """Pairs (machine, certificate) of machines that are not broken, by a search."""
    for machine in (*many_machines(many, first, most_inputs, most_registers), *plain_machines(), doubled()):
        table = table_of(machine)
        if least_cycles(machine, table) is None:
            yield machine, kept_with(machine, clauses_come_to(machine, table))


def plain_is_kept(machine, told):
    """Whether told is a certificate, apart from the program's judge."""
    if told.__class__ is not Kept or told.clauses.__class__ is not tuple or told.papers.__class__ is not tuple:
        return False
    clauses, papers = told.clauses, told.papers
    if not are_right_clauses(len(machine.resets), clauses) or not all(clause.__class__ is tuple for clause in clauses):
        return False
    if len(papers) != len(clauses) + 1 or not all(is_true(machine.resets, clause) for clause in clauses):
        return False
    given = (*clauses_of(machine.graph), *[now(machine, clause) for clause in clauses])
    asked = [*[behind(machine, clause) for clause in clauses], clause_of((machine.wish,))]
    for clause, paper in zip(asked, papers):
        if clause is None:
            if paper is not None:
                return False
        elif not is_refutation(given, paper, tuple(-literal for literal in clause)):
            return False
    return True


class Objects(Keeping, unittest.TestCase):
    def test_what_it_keeps(self):
        self.assertKeeps(Kept, "clauses", "papers")


class MadeAnew(unittest.TestCase):
    def test_by_hand(self):
        self.assertEqual(given_of(HAND, ()), clauses_of(GRAPH))
        self.assertEqual(given_of(HAND, ((1,), (-1, 2), (1,))), (*clauses_of(GRAPH), (3,), (-3, 4), (3,)))
        self.assertEqual(given_of(HAND, [[1], [-1, 2]]), (*clauses_of(GRAPH), (3,), (-3, 4)))
        for clause, told in (((1,), (-5,)), ((-1,), (5,)), ((2,), (4,)), ((-2,), (-4,)), ((1, 2), (4, -5)), ((-1, -2), (-4, 5)), ((), ())):
            self.assertEqual(against(HAND, clause), told)
            self.assertEqual(against(HAND, list(clause)), told)
        self.assertEqual(against_wish(HAND), (6,))
        # Registers that become 1, what the other one is not, and what it is.
        machine = Machine(Graph(3, ()), 1, (0, 0), (1, 4), 0)
        for clause, told in (((1,), None), ((-1,), ()), ((2,), (-2,)), ((-1, 2), (-2,)), ((1, -2), None)):
            self.assertEqual(against(machine, clause), told)
        self.assertEqual(against_wish(machine), ())
        self.assertIsNone(against_wish(Machine(Graph(3, ()), 1, (0, 0), (1, 4), 1)))
        machine = Machine(Graph(2, ()), 0, (0, 0), (4, 5), 5)
        for clause, told in (((1, 2), None), ((-1, 2), (2,)), ((1, -2), (-2,)), ((1,), (-2,)), ((2,), (2,))):
            self.assertEqual(against(machine, clause), told)
        self.assertEqual(against_wish(machine), (2,))

    def test_clause_by_clause(self):
        """By all states and inputs: that what is given holds tells of the cycle, what is against it that it fails behind."""
        nothing = 0
        for machine in (*many_machines(60, 6500), *plain_machines()):
            table = table_of(machine)
            rule = Rule(len(table) + machine.inputs)
            clauses = []
            for _ in range(rule.pick(4)):
                clauses.append(tuple(n * rule.one_of((1, -1)) for n in range(1, len(machine.resets) + 1) if rule.pick(2)))
            given = given_of(machine, clauses)
            self.assertEqual(given, (*clauses_of(machine.graph), *[now(machine, clause) for clause in clauses]))
            self.assertTrue(all(clause.__class__ is tuple for clause in given))
            for clause in clauses:
                later = behind(machine, clause)
                told = against(machine, clause)
                self.assertEqual(told, None if later is None else tuple(-n for n in later))
                nothing += told is None
            wish = clause_of((machine.wish,))
            self.assertEqual(against_wish(machine), None if wish is None else tuple(-n for n in wish))
            for state, rows in table.items():
                for row, (later, worth) in rows.items():
                    values = node_values(machine.graph, (*row, *state))[1:]
                    self.assertIs(all(is_true(values, clause) for clause in given), all(is_true(state, clause) for clause in clauses))
                    for clause in clauses:
                        told = against(machine, clause)
                        fails = told is not None and all(is_true(values, (n,)) for n in told)
                        self.assertIs(fails, not is_true(later, clause))
                    told = against_wish(machine)
                    self.assertIs(told is not None and all(is_true(values, (n,)) for n in told), worth == 0)
        self.assertGreater(nothing, 10)


class Certificates(unittest.TestCase):
    def hold(self, machine, told, wanted):
        self.assertIs(plain_is_kept(machine, told), wanted)
        self.assertIs(is_kept(machine, told), wanted)

    def test_made_by_solve(self):
        many = 0
        for machine, kept in certificates(120, 6600):
            self.hold(machine, kept, True)
            many += len(kept.clauses) > 0
            turned = kept.clauses[::-1]
            self.hold(machine, kept_with(machine, turned), True)
            twice = kept_with(machine, (*kept.clauses, *kept.clauses))
            self.hold(machine, twice, True)
            if kept.clauses:
                self.hold(machine, Kept(kept.clauses[1:], kept.papers[1:]), plain_is_kept(machine, Kept(kept.clauses[1:], kept.papers[1:])))
            self.hold(machine, Kept(list(kept.clauses), list(kept.papers)), True)
            self.hold(machine, Kept([list(clause) for clause in kept.clauses], kept.papers), kept.clauses == ())
        self.assertGreater(many, 25)

    def test_by_hand(self):
        # A counter of two bits that goes from 1 to 0: (1) its high bit stays 0, (2) so it does not come to 3.
        machine = counter(2, 0, 1, 3)
        given = given_of(machine, ((-2,),))
        told = kept_with(machine, ((-2,),))
        self.hold(machine, told, True)
        self.assertEqual(given[-1], (-2,))
        for clauses in ((), ((2,),), ((-1,),), ((1,),), ((-1, 2),), ((1, -2),), ((),), ((-2,), ()), ((-2,), (-1,))):
            self.hold(machine, kept_with(machine, clauses), False)
        for clauses in (((-1, -2),), ((1, -2), (-1, -2)), ((-2,), (-2,)), ((-2,), (-1, -2))):
            self.hold(machine, kept_with(machine, clauses), plain_is_kept(machine, kept_with(machine, clauses)))
        self.hold(machine, Kept(((-2,),), told.papers[::-1]), False)
        self.hold(machine, Kept(((-2,),), told.papers[:1]), False)
        self.hold(machine, Kept(((-2,),), (*told.papers, told.papers[0])), False)
        self.hold(machine, Kept((), told.papers[1:]), False)
        self.hold(machine, Kept(((-2,),), (None, told.papers[1])), False)
        self.hold(machine, Kept(((-2,),), (told.papers[0], None)), False)

    def test_of_no_clauses(self):
        always = Machine(GRAPH, 2, (0, 1), (10, 9), 1)
        self.hold(always, Kept((), (None,)), True)
        self.hold(always, Kept([], [None]), True)
        for papers in ((), ((),), ((("given", 0),),), (None, None), None, (None, ()), ((None,),)):
            self.hold(always, Kept((), papers), False)
        # Whatever the registers are, the wish is that a and not a are not both 1.
        machine = Machine(Graph(2, ((2, 4), (3, 6))), 1, (0,), (2,), 9)
        self.hold(machine, kept_with(machine, ()), True)
        self.hold(machine, Kept((), (None,)), False)

    def test_none_where_it_is_due(self):
        machine = Machine(Graph(3, ()), 1, (1, 0), (1, 4), 4)
        told = kept_with(machine, ((1,),))
        self.assertIsNone(told.papers[0])
        self.hold(machine, told, True)
        for paper in ((), (("given", 0),), 0, False, "", (None,)):
            self.hold(machine, Kept(told.clauses, (paper, told.papers[1])), False)

    def test_broken_machines_have_none(self):
        broken = 0
        for machine in (*many_machines(120, 6700), *plain_machines()):
            table = table_of(machine)
            if least_cycles(machine, table) is not None:
                broken += 1
                for clauses in (clauses_come_to(machine, table), tuple(not_clause(state) for state in table if state != machine.resets)):
                    kept = kept_with(machine, clauses)
                    self.hold(machine, kept, False)
                    for other in (None, (), (("given", 0),)):
                        self.hold(machine, Kept(clauses, (*kept.papers[:-1], other)), False)
        self.assertGreater(broken, 60)

    def test_main_fact(self):
        """All clauses that are a certificate hold in all states that reset leads to, and there the wish is 1."""
        kept = 0
        for machine in many_machines(60, 6800, 2, 2):
            table = table_of(machine)
            seen = set().union(*states_come_to(machine, table))
            states = [not_clause(state) for state in table]
            for number in range(2 ** len(states)):
                clauses = tuple(clause for n, clause in enumerate(states) if number >> n & 1)
                if is_kept(machine, kept_with(machine, clauses)):
                    kept += 1
                    self.assertTrue(all(is_true(state, clause) for state in seen for clause in clauses))
                    self.assertTrue(all(wish == 1 for state in seen for _, wish in table[state].values()))
                    self.assertIsNone(least_cycles(machine, table))
        self.assertGreater(kept, 20)


class Bent(unittest.TestCase):
    def setUp(self):
        self.machine = doubled()
        self.kept = kept_with(self.machine, ((-1, 2), (1, -2)))

    def hold(self, told, wanted=None):
        if wanted is None:
            wanted = plain_is_kept(self.machine, told)
        self.assertIs(is_kept(self.machine, told), wanted)
        return wanted

    def test_clauses(self):
        clauses, papers = self.kept.clauses, self.kept.papers
        self.hold(self.kept, True)
        self.assertEqual([paper is None for paper in papers], [False] * 3)
        for other in (
            ((-1, 2),), ((1, -2), (-1, 2)), ((-1, 2), (1, 2)), ((-1, 2), (-1, -2)), ((-1, 2), (1, -2, 3)), ((-1, 2), (-3,)),
            ((-1, 2), (-2, 1)), ((-1, 2), (1, 1)), ((-1, 2), (1, -1)), ((-1, 2), (0,)), ((-1, 2), (True, -2)), ((-1, 2), (1.0, -2)),
            ((-1, 2), [1, -2]), ([-1, 2], (1, -2)), ((-1, 2), None), ((-1, 2), 1), None, 2, "", {}, ((-1, 2), ("1", -2)), ((-1, 2), ()),
            ((-1, 2), (1, -2), (1, -2)),
        ):
            self.hold(Kept(other, papers), False)
        self.hold(Kept(((-1, 2), (1, -2), (1, -2)), (*papers[:2], papers[1], papers[2])), True)
        self.hold(Kept(list(clauses), papers), True)

    def test_papers(self):
        clauses, papers = self.kept.clauses, self.kept.papers
        for other in (papers[::-1], papers[1:], papers[:-1], (*papers, papers[0]), (*papers, None), (papers[1], papers[0], papers[2]),
                      (papers[0], papers[1], None), (None, *papers[1:]), (papers[0], (), papers[2]), [list(papers[0]), *papers[1:]],
                      None, 3, (), (papers[0], papers[0], papers[2])):
            self.hold(Kept(clauses, other), False)
        self.hold(Kept(clauses, list(papers)), True)

    def test_each_line_bent(self):
        right = wrong = 0
        for path in list(paths(self.kept.papers))[::2]:
            for value in (0, 1, -1, 2, True, None, "given", (), [], Own()):
                told = self.hold(Kept(self.kept.clauses, bent(self.kept.papers, path, value)))
                right, wrong = right + told, wrong + (not told)
        self.assertTrue(right > 3 and wrong > 300, (right, wrong))

    def test_each_clause_bent(self):
        for path in paths(self.kept.clauses):
            for value in (0, 1, -1, 2, -2, 3, True, False, None, "1", 1.0, (), [], (1,), Own()):
                self.hold(Kept(bent(self.kept.clauses, path, value), self.kept.papers))

    def test_anything(self):
        clauses, papers = self.kept.clauses, self.kept.papers
        for value in (*anything(), Kept, FirstBreak(clauses, papers), Barred(papers[0])):
            self.hold(value, False)
            self.hold(Kept(value, papers), False)
            self.hold(Kept(clauses, value), False)
            self.hold(Kept((*clauses, value), (*papers, papers[0])), False)
            for k in range(2):
                self.hold(Kept(placed(clauses, k, value), papers), False)
                self.hold(Kept(placed(clauses, k, placed(clauses[k], k, value)), papers))
            for k in range(3):
                self.hold(Kept(clauses, placed(papers, k, value)), False)
                self.hold(Kept(clauses, placed(papers, k, (*papers[k][:-1], value))), False)

    def test_of_another_machine(self):
        for machine in (HAND, counter(2, 0, 1, 3), counter(3, 0, 1, 3), Machine(Graph(0, ()), 0, (), (), 1)):
            self.assertIs(is_kept(machine, self.kept), False)


def plain_lessened(machine, kept):
    """What lessened must tell, by the words of [65]."""
    given = given_of(machine, kept.clauses)
    first = len(given) - len(kept.clauses)
    found, size = set(), -1
    while len(found) != size:
        size = len(found)
        for paper in (kept.papers[-1], *[kept.papers[k] for k in found]):
            if paper is not None:
                found.update(n - first for n in roots_of(given, paper) if n >= first)
    order = sorted(found)

    def anew(paper):
        if paper is None:
            return None
        return tuple(("given", first + order.index(line[1] - first)) if line[0] == "given" and line[1] >= first else line
                     for line in drawn(given, paper))

    return tuple(kept.clauses[k] for k in order), tuple(anew(kept.papers[k]) for k in (*order, -1))


class Lessened(unittest.TestCase):
    def hold(self, machine, kept):
        self.assertIs(is_kept(machine, kept), True)
        told = lessened(machine, kept)
        self.assertIs(told.__class__, Kept)
        self.assertEqual((told.clauses, told.papers), plain_lessened(machine, kept))
        self.assertIs(is_kept(machine, told), True)
        again = lessened(machine, told)
        self.assertEqual((again.clauses, again.papers), (told.clauses, told.papers))
        self.assertEqual(vars(lessened(machine, kept)), vars(told))
        return told

    def test_certificates(self):
        fewer = same = 0
        for number, (machine, kept) in enumerate(certificates(120, 6900)):
            told = self.hold(machine, kept)
            fewer += len(told.clauses) < len(kept.clauses)
            same += 0 < len(told.clauses) == len(kept.clauses)
            rule = Rule(number)
            clauses = list(kept.clauses)
            for clause in kept.clauses:
                # Doubled ones, and weaker ones.
                clauses.insert(rule.pick(len(clauses) + 1), clause)
                weaker = sorted({*clause, *[n for n in range(1, len(machine.resets) + 1) if -n not in clause and rule.pick(2)]}, key=abs)
                clauses.insert(rule.pick(len(clauses) + 1), tuple(weaker))
            self.hold(machine, kept_with(machine, clauses))
        self.assertTrue(fewer > 5 and same > 3, (fewer, same))

    def test_lines_that_nothing_needs(self):
        for number, (machine, kept) in enumerate(certificates(60, 7000)):
            given = given_of(machine, kept.clauses)
            papers = tuple(None if paper is None else messed(Rule(number + k), given, paper) for k, paper in enumerate(kept.papers))
            more = Kept(kept.clauses, papers)
            told = self.hold(machine, more)
            self.assertEqual([paper is None for paper in told.papers][-1], kept.papers[-1] is None)

    def test_by_hand(self):
        machine = counter(3, 0, 1, 4)
        whole = kept_with(machine, ((-3,), (-2,), (-3,), (-2, -3)))
        told = self.hold(machine, whole)
        self.assertLessEqual(len(told.clauses), 3)
        always = Machine(GRAPH, 2, (0, 1), (10, 9), 1)
        told = self.hold(always, Kept((), (None,)))
        self.assertEqual((told.clauses, told.papers), ((), (None,)))
        machine = Machine(Graph(3, ()), 1, (1, 0), (1, 4), 4)
        told = self.hold(machine, Kept(((1, 2), (1,), (1,)), (None, None, None, (("given", 1),))))
        self.assertEqual((told.clauses, told.papers), (((1,),), (None, (("given", 0),))))
        told = self.hold(machine, Kept(((1, 2), (1,), (1,)), (None, None, None, (("given", 2), ("given", 0), ("given", 2)))))
        self.assertEqual((told.clauses, told.papers), (((1,),), (None, (("given", 0),))))


class WithBreaks(unittest.TestCase):
    def test_not_both(self):
        """No machine has a certificate and a break."""
        for machine in many_machines(60, 7100, 2, 2):
            table = table_of(machine)
            told = first_break(machine, 4)
            kept = is_kept(machine, kept_with(machine, clauses_come_to(machine, table)))
            self.assertIs(kept, told.__class__ is not FirstBreak)
            self.assertIs(kept, least_cycles(machine, table) is None)


if __name__ == "__main__":
    unittest.main()
