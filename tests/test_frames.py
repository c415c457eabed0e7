"""[55] to [60]: sets of states that grow until two are alike."""

import unittest

from everycycle.bounded import Broken, is_break
from everycycle.clauses import Machine
from everycycle.frames import (
    Frames, Shut, Way, begun, break_in, frame, holds_at, in_set, measure, not_state, settle, shut, stands, stepped, way_past,
)
from everycycle.graphs import Graph
from everycycle.judge import Kept, is_kept
from tests.fixed import Rule
from tests.keeping import Keeping
from tests.nets import all_bits
from tests.test_clauses import is_true
from tests.test_judge import plain_is_kept
from tests.test_machines import ARGUMENTS, GRAPH
from tests.walks import (
    counter, doubled, is_break_by, least_cycles, many_machines, plain_machines, table_of,
)

HAND = Machine(*ARGUMENTS)


def is_in(machine, clauses, state):
    """Whether a state is in a set, by the words of [55]."""
    return state == machine.resets if clauses is None else all(is_true(state, clause) for clause in clauses)


def ways_past(machine, table, clauses, clause):
    """All pairs (state, inputs) from a set and a clause to where the clause does not hold, by the table."""
    return {(state, row) for state in table if is_in(machine, clauses, state) and is_true(state, clause)
            for row, (later, _) in table[state].items() if not is_true(later, clause)}


def breaks_in(machine, table, clauses):
    """All pairs (state, inputs) from a set with the wish 0."""
    return {(state, row) for state in table if is_in(machine, clauses, state)
            for row, (_, wish) in table[state].items() if wish == 0}


def is_shut_clause(machine, table, clauses, state, clause):
    """Whether a clause is what Shut may hold, by the table."""
    whole = [-n if bit else n for n, bit in enumerate(state, 1)]
    if clause.__class__ is not tuple or [n for n in whole if n in clause] != list(clause):
        return False

    def fits(part):
        return is_true(machine.resets, part) and not ways_past(machine, table, clauses, part)

    return fits(clause) and not any(fits(clause[:k] + clause[k + 1:]) for k in range(len(clause)))


def some_sets(rule, machine):
    """None, the empty row, and rows of clauses made by the rule."""
    many = len(machine.resets)
    told = [None, ()]
    for _ in range(3):
        clauses = []
        for _ in range(1 + rule.pick(3)):
            clauses.append(tuple(n * rule.one_of((1, -1)) for n in range(1, many + 1) if rule.pick(2)))
        told.append(tuple(clauses))
    return told


class Objects(Keeping, unittest.TestCase):
    def test_what_they_keep(self):
        self.assertKeeps(Way, "state", "inputs")
        self.assertKeeps(Shut, "clause")
        self.assertKeeps(Frames, "machine", "levels", "stack")

    def test_begun(self):
        told = begun(HAND)
        self.assertIs(told.__class__, Frames)
        self.assertIs(told.machine, HAND)
        self.assertEqual((told.levels, told.stack), ((), ()))


class Sets(unittest.TestCase):
    def test_by_hand(self):
        for clause, state, told in (((1,), (1, 0), True), ((1,), (0, 1), False), ((-1, 2), (1, 0), False), ((-1, 2), (0, 0), True), ((), (1, 1), False)):
            self.assertIs(holds_at(clause, state), told)
            self.assertIs(holds_at(list(clause), list(state)), told)
        for clauses, state, told in ((None, (0, 1), True), (None, (1, 1), False), ((), (1, 1), True), (((1,),), (1, 1), True),
                                     (((1,), (-2,)), (1, 1), False), (((),), (1, 1), False), ([[1], [2, -1]], [1, 1], True)):
            self.assertIs(in_set(HAND, clauses, state), told)
        self.assertIs(in_set(HAND, None, [0, 1]), True)
        self.assertEqual(not_state((1, 0, 1)), (-1, 2, -3))
        self.assertEqual(not_state([0, 0]), (1, 2))
        self.assertEqual(not_state(()), ())

    def test_all_states(self):
        for machine in many_machines(40, 8000):
            rule = Rule(len(machine.graph.gates))
            states = list(all_bits(len(machine.resets)))
            for clauses in some_sets(rule, machine):
                for state in states:
                    self.assertIs(in_set(machine, clauses, state), is_in(machine, clauses, state))
                    for clause in clauses or ():
                        self.assertIs(holds_at(clause, state), is_true(state, clause))
            for state in states:
                told = not_state(state)
                self.assertEqual([abs(n) for n in told], list(range(1, len(state) + 1)))
                self.assertEqual([other for other in states if not is_true(other, told)], [state])


class Asked(unittest.TestCase):
    def test_break_in(self):
        found = 0
        for machine in (*many_machines(100, 8100), *plain_machines(), doubled()):
            table = table_of(machine)
            for clauses in some_sets(Rule(len(table) + machine.wish), machine):
                wanted = breaks_in(machine, table, clauses)
                for handed in (clauses, None if clauses is None else [list(clause) for clause in clauses]):
                    told = break_in(machine, handed)
                    if wanted:
                        self.assertIn(told, wanted)
                        found += 1
                    else:
                        self.assertIsNone(told)
                self.assertEqual(break_in(machine, clauses), told)
        self.assertGreater(found, 100)

    def test_way_past(self):
        found = none = 0
        for machine in (*many_machines(100, 8200), *plain_machines(), doubled()):
            table = table_of(machine)
            rule = Rule(len(table) + machine.wish)
            for clauses in some_sets(rule, machine):
                for clause in {(), *[clause for some in some_sets(rule, machine) for clause in some or ()], not_state(machine.resets)}:
                    wanted = ways_past(machine, table, clauses, clause)
                    told = way_past(machine, clauses, clause)
                    if wanted:
                        self.assertIn(told, wanted)
                        found += 1
                    else:
                        self.assertIsNone(told)
                        none += 1
                    self.assertEqual(way_past(machine, None if clauses is None else list(clauses), list(clause)), told)
        self.assertTrue(found > 100 and none > 500, (found, none))

    def test_empty_sets_and_the_empty_clause(self):
        for machine in many_machines(30, 8300):
            for clauses in (((),), ((1,), (-1,), ()), ((), ())):
                if len(machine.resets) > 0 or clauses[0] == ():
                    self.assertIsNone(break_in(machine, clauses))
                    self.assertIsNone(way_past(machine, clauses, ()))
            for clauses in (None, (), ((),)):
                self.assertIsNone(way_past(machine, clauses, ()))

    def test_by_hand(self):
        self.assertIsNone(break_in(HAND, None))
        self.assertEqual(break_in(HAND, ((1,), (2,)))[0], (1, 1))
        self.assertIsNone(break_in(HAND, ((-1, -2),)))
        self.assertEqual(break_in(HAND, ())[0], (1, 1))
        self.assertEqual(way_past(HAND, None, (-1,)), ((0, 1), (1, 1)))
        self.assertIsNone(way_past(HAND, None, (1,)))
        self.assertIsNone(way_past(HAND, None, (-1, -2)))

    def test_shut(self):
        ways = shuts = 0
        for machine in (*many_machines(100, 8400), *plain_machines(), doubled()):
            table = table_of(machine)
            for clauses in some_sets(Rule(len(table) + 3 * machine.wish), machine):
                for state in table:
                    if state != machine.resets:
                        told = self.hold_shut(machine, table, clauses, state)
                        ways, shuts = ways + (told is Way), shuts + (told is Shut)
        self.assertTrue(ways > 200 and shuts > 200, (ways, shuts))

    def hold_shut(self, machine, table, clauses, state):
        told = shut(machine, clauses, state)
        wanted = ways_past(machine, table, clauses, not_state(state))
        if wanted:
            self.assertIs(told.__class__, Way)
            self.assertIn((told.state, told.inputs), wanted)
            self.assertEqual(table[told.state][told.inputs][0], state)
        else:
            self.assertIs(told.__class__, Shut)
            self.assertTrue(is_shut_clause(machine, table, clauses, state, told.clause), (clauses, state, told.clause))
        other = shut(machine, None if clauses is None else [list(clause) for clause in clauses], list(state))
        self.assertEqual(vars(other), vars(told))
        return told.__class__

    def test_shut_where_registers_go_alike(self):
        """Registers whose next values are opposites, the same, or constants."""
        graph = Graph(5, ((2, 4),))
        for nexts in ((2, 3, 2, 0), (12, 13, 1, 12), (1, 1, 0, 0), (4, 4, 5, 5), (6, 7, 8, 9), (8, 6, 7, 6)):
            machine = Machine(graph, 1, (0, 1, 0, 1), nexts, 1)
            table = table_of(machine)
            for clauses in (None, (), ((1, 2),), ((-1, 3), (2, -4))):
                for state in table:
                    if state != machine.resets:
                        self.hold_shut(machine, table, clauses, state)


class Plain:
    """Frames by a table, apart from the program."""

    def __init__(self, machine):
        self.machine = machine
        self.table = table_of(machine)

    def set_of(self, levels, i):
        if i == 0:
            return None
        return tuple(clause for level in levels[i - 1:] for clause in level)

    def states_in(self, levels, i):
        return {state for state in self.table if is_in(self.machine, self.set_of(levels, i), state)}

    def stands(self, levels, stack):
        """(1) to (5) of [57]."""
        k = len(levels)
        sets = [self.states_in(levels, i) for i in range(k + 1)]
        if not all(self.machine.resets in states for states in sets):
            return False
        for i in range(k):
            if not sets[i] <= sets[i + 1]:
                return False
            for state in sets[i]:
                if any(later not in sets[i + 1] or wish == 0 for later, wish in self.table[state].values()):
                    return False
        if len(stack) > k + 1:
            return False
        for at, (state, row) in enumerate(stack):
            if state not in sets[k - at]:
                return False
            later, wish = self.table[state][row]
            if (at == 0 and wish == 1) or (at > 0 and later != stack[at - 1][0]):
                return False
        return True

    def measure(self, levels, stack):
        k = len(levels)
        states = sum(len(self.states_in(levels, i)) for i in range(1, k + 1))
        return len(self.table) - k, states, k - (len(stack) - 1) if stack else k + 1

    def lifted(self, levels):
        """The levels behind a new one, and the Kept's clauses or None, by the last point of [58]."""
        levels = [list(level) for level in levels] + [[]]
        k = len(levels)
        for i in range(1, k):
            for clause in list(levels[i - 1]):
                if not ways_past(self.machine, self.table, self.set_of(levels, i), clause):
                    levels[i - 1].remove(clause)
                    if clause not in levels[i]:
                        levels[i].append(clause)
        for i in range(1, k):
            if not levels[i - 1]:
                return None, tuple(sorted(set(self.set_of(levels, i + 1))))
        return tuple(tuple(level) for level in levels), None

    def is_next(self, levels, stack, told):
        """Whether told may come behind these levels and this stack, by [58]."""
        k = len(levels)
        if stack and stack[-1][0] == self.machine.resets:
            return told.__class__ is Broken and told.rows == tuple(row for _, row in reversed(stack))
        if stack:
            return self.is_shut_next(levels, stack, k - len(stack) + 1, told)
        found = breaks_in(self.machine, self.table, self.set_of(levels, k))
        if found:
            return told.__class__ is Frames and told.levels == levels and len(told.stack) == 1 and told.stack[0] in found
        wanted, clauses = self.lifted(levels)
        if wanted is None:
            return told.__class__ is Kept and told.clauses == clauses and plain_is_kept(self.machine, told)
        return told.__class__ is Frames and told.levels == wanted and told.stack == ()

    def is_shut_next(self, levels, stack, i, told):
        if told.__class__ is not Frames:
            return False
        state = stack[-1][0]
        ways = ways_past(self.machine, self.table, self.set_of(levels, i - 1), not_state(state))
        if ways:
            return told.levels == levels and told.stack[:-1] == stack and told.stack[-1] in ways
        if told.stack != stack[:-1] or told.levels[:i - 1] != levels[:i - 1] or told.levels[i:] != levels[i:]:
            return False
        level = told.levels[i - 1]
        return level[:-1] == levels[i - 1] and is_shut_clause(
            self.machine, self.table, self.set_of(levels, i - 1), state, level[-1])


def some_machines(first, many=60):
    """Machines of several kinds, such with longer ways among them."""
    told = [*many_machines(many, first), *plain_machines()[::3], doubled()]
    told += [counter(3, 0, 7, 7), counter(3, 2, 6, 7), counter(3, 0, 5, 6, 1), counter(3, 1, 7, 0, 2), counter(2, 3, 3, 2, 1)]
    return told


def all_frames(machine):
    """All Frames from begun on, and at last the answer."""
    told = [begun(machine)]
    while isinstance(told[-1], Frames):
        told.append(stepped(told[-1]))
    return told


class Steps(unittest.TestCase):
    def test_from_begun_to_the_answer(self):
        """Facts F and G."""
        counts = {}
        for machine in some_machines(8500):
            plain = Plain(machine)
            told = all_frames(machine)
            last = None
            for here, behind in zip(told, told[1:]):
                self.assertIs(here.machine, machine)
                self.assertTrue(plain.stands(here.levels, here.stack))
                self.assertIs(stands(here), True)
                self.assertTrue(plain.is_next(here.levels, here.stack, behind), (here.levels, here.stack, vars(behind)))
                found = measure(here)
                self.assertEqual(found, plain.measure(here.levels, here.stack))
                self.assertTrue(all(number >= 0 for number in found))
                self.assertTrue(last is None or found < last, (last, found))
                last = found
                self.hold_frames(here)
                kind = (len(here.stack) > 0, behind.__class__, len(getattr(behind, "levels", ())) > len(here.levels))
                counts[kind] = counts.get(kind, 0) + 1
            least = least_cycles(machine, plain.table)
            self.assertIs(told[-1].__class__, Kept if least is None else Broken)
            if least is not None:
                self.assertEqual(len(told[-1].rows), least)
        self.assertEqual(len(counts), 5, counts)
        self.assertTrue(all(many > 20 for many in counts.values()), counts)

    def hold_frames(self, here):
        """What frame tells, and that lists do as tuples."""
        k = len(here.levels)
        self.assertIsNone(frame(here, 0))
        for i in range(1, k + 1):
            wanted = {clause for level in here.levels[i - 1:] for clause in level}
            self.assertEqual(frame(here, i), tuple(sorted(wanted)))
        listed = Frames(here.machine, [[list(clause) for clause in level] for level in here.levels],
                        [[list(state), list(row)] for state, row in here.stack])
        self.assertEqual([frame(listed, i) for i in range(k + 1)], [frame(here, i) for i in range(k + 1)])
        self.assertIs(stands(listed), True)
        self.assertEqual(measure(listed), measure(here))
        one, other = stepped(listed), stepped(here)
        self.assertIs(one.__class__, other.__class__)
        self.assertEqual({name: value for name, value in vars(one).items() if name != "machine"},
                         {name: value for name, value in vars(other).items() if name != "machine"})

    def test_frames_of_clauses_twice(self):
        told = Frames(HAND, (((2,), (1, -2)), ((1,), (-1, 2), (2,)), ((1,),)), ())
        self.assertIsNone(frame(told, 0))
        self.assertEqual(frame(told, 1), ((-1, 2), (1,), (1, -2), (2,)))
        self.assertEqual(frame(told, 2), ((-1, 2), (1,), (2,)))
        self.assertEqual(frame(told, 3), ((1,),))

    def test_each_frames_bent(self):
        right = wrong = 0
        for number, machine in enumerate(some_machines(8600, 30)):
            plain = Plain(machine)
            rule = Rule(number)
            for here in all_frames(machine)[:-1]:
                for levels, stack in bent_frames(rule, machine, here.levels, here.stack):
                    wanted = plain.stands(levels, stack)
                    self.assertIs(stands(Frames(machine, levels, stack)), wanted, (levels, stack))
                    self.assertEqual(measure(Frames(machine, levels, stack)), plain.measure(levels, stack))
                    right, wrong = right + wanted, wrong + (not wanted)
        self.assertTrue(right > 200 and wrong > 200, (right, wrong))

    def test_stacks_of_what_are_no_states_or_inputs(self):
        self.assertIs(stands(Frames(HAND, (), (((0, 1), (0, 0)),))), False)
        self.assertIs(stands(Frames(HAND, ((),), (((1, 1), (0, 0)),))), True)
        for pair in (((1,), (0, 0)), ((1, 1), (0,)), ((1, 1, 1), (0, 0)), ((), ()), ((1, 1), (0, 2)), ((1, 2), (0, 0))):
            self.assertIs(stands(Frames(HAND, ((),), (pair,))), False)

    def test_steps_from_frames_that_stand(self):
        """What stands need not have come from begun: levels with more clauses, or such that stand twice, or in another order."""
        many = twice = 0
        for number, machine in enumerate(some_machines(8700, 40)):
            plain = Plain(machine)
            rule = Rule(number)
            for here in all_frames(machine)[:-1]:
                for levels, stack in bent_frames(rule, machine, here.levels, here.stack):
                    if plain.stands(levels, stack):
                        told = stepped(Frames(machine, levels, stack))
                        self.assertTrue(plain.is_next(levels, stack, told), (levels, stack, vars(told)))
                        many += 1
                        twice += any(set(one) & set(other) for k, one in enumerate(levels) for other in levels[:k])
        self.assertTrue(many > 300 and twice > 50, (many, twice))


def bent_frames(rule, machine, levels, stack):
    """Pairs (levels, stack) that are like these but for one thing."""
    many, k = len(machine.resets), len(levels)
    clause = tuple(n * rule.one_of((1, -1)) for n in range(1, many + 1) if rule.pick(2))
    for i in range(k):
        level = levels[i]
        yield (*levels[:i], level, *levels[i:]), stack
        yield (*levels[:i], *levels[i + 1:]), stack
        yield (*levels[:i], (*level, clause), *levels[i + 1:]), stack
        yield (*levels[:i], level[::-1], *levels[i + 1:]), stack
        if level:
            at = rule.pick(len(level))
            yield (*levels[:i], level[:at] + level[at + 1:], *levels[i + 1:]), stack
            other = rule.pick(k)
            if other != i:
                yield (*levels[:other], (*levels[other], level[at]), *levels[other + 1:]), stack
    yield (*levels, ()), stack
    state = tuple(rule.pick(2) for _ in range(many))
    row = tuple(rule.pick(2) for _ in range(machine.inputs))
    yield levels, (*stack, (state, row))
    yield levels, ((state, row),)
    for at, (old, inputs) in enumerate(stack):
        yield levels, (*stack[:at], (state, inputs), *stack[at + 1:])
        yield levels, (*stack[:at], (old, row), *stack[at + 1:])
        yield levels, stack[:at] + stack[at + 1:]
        yield levels, stack[:at + 1] + stack[at:]


class Settled(unittest.TestCase):
    def hold(self, machine):
        """settle must tell the right one of both; tells it."""
        table = table_of(machine)
        least = least_cycles(machine, table)
        told = settle(machine)
        if least is None:
            self.assertIs(told.__class__, Kept)
            self.assertIs(is_kept(machine, told), True)
            self.assertTrue(plain_is_kept(machine, told))
        else:
            self.assertIs(told.__class__, Broken)
            self.assertEqual(len(told.rows), least)
            self.assertTrue(is_break_by(machine, table, told.rows))
            self.assertIs(is_break(machine, told.rows), True)
        self.assertEqual(vars(settle(machine)), vars(told))
        return least

    def test_against_a_search(self):
        counts = {}
        for machine in (*many_machines(250, 8800), *plain_machines(), doubled()):
            least = self.hold(machine)
            counts[least] = counts.get(least, 0) + 1
        self.assertTrue(all(counts.get(least, 0) > 3 for least in (None, 1, 2, 3, 4)), counts)

    def test_larger_ones(self):
        counts = {}
        for machine in many_machines(60, 8900, 3, 5):
            least = self.hold(machine)
            counts[least] = counts.get(least, 0) + 1
        self.assertGreater(len(counts), 5)
        for reset, last, broken, inputs in ((0, 31, 31, 0), (0, 30, 31, 1), (7, 20, 6, 1), (7, 6, 6, 2), (31, 31, 30, 0)):
            self.hold(counter(5, reset, last, broken, inputs))

    def test_reset_breaks(self):
        for machine in (Machine(GRAPH, 2, (0, 1), (10, 9), 0), Machine(GRAPH, 2, (1, 1), (10, 9), 13), Machine(GRAPH, 2, (0, 1), (10, 9), 10)):
            self.assertEqual(self.hold(machine), 1)

    def test_without_registers_or_inputs(self):
        for wish, least in ((0, 1), (1, None)):
            machine = Machine(Graph(0, ()), 0, (), (), wish)
            self.assertEqual(self.hold(machine), least)
        self.assertEqual(settle(Machine(Graph(0, ()), 0, (), (), 0)).rows, ((),))
        told = settle(Machine(Graph(0, ()), 0, (), (), 1))
        self.assertEqual((told.clauses, told.papers), ((), (None,)))
        for wish, least in ((2, 1), (3, 1), (6, 1), (7, 1), (9, None)):
            self.assertEqual(self.hold(Machine(Graph(2, ((2, 4), (6, 3))), 2, (), (), wish)), least)

    def test_constant_nexts(self):
        for nexts, wish, least in (((0, 0), 3, None), ((1, 0), 3, 2), ((1, 1), 3, 2), ((0, 1), 4, 1), ((0, 1), 6, 1), ((0, 1), 7, None), ((2, 4), 3, None), ((3, 4), 3, 2)):
            machine = Machine(Graph(2, ((2, 4),)), 0, (0, 0), nexts, wish)
            self.assertEqual(self.hold(machine), least, (nexts, wish))


if __name__ == "__main__":
    unittest.main()
