"""Wishes that are kept because the last k cycles, with unlike states, keep them."""

from everycycle.bounded import (
    FirstBreak, are_judged_rows, are_papers, first_break, is_break_within, need_from, one_cycle,
)
from everycycle.clauses import unrolled
from everycycle.graphs import Builder, own_leaves, put_into, xor_of
from everycycle.kinds import has_tuples_alone, is_row_between, row_kept
from everycycle.lines import is_refutation
from everycycle.lots import cut_up, lot_of
from everycycle.solver import Found, solve


class KeptBySteps:
    """Refutations of breaks of 1 to k cycles, and one of unlike paths that keep the wish k times, then not."""

    def __init__(self, base, step):
        self.base = row_kept(base)
        self.step = row_kept(step)


class OpenSteps:
    """A path of unlike states that keeps the wish but in its last cycle; whether reset leads to it is open."""

    def __init__(self, state, rows):
        self.state = row_kept(state)
        self.rows = row_kept(rows)


def path_of(machine, state, rows):
    """The pairs (state ahead, wish) of the cycles from any state."""
    told = []
    now = tuple(state)
    for row in rows:
        behind, wish = one_cycle(machine, now, row)
        told.append((now, wish))
        now = behind
    return tuple(told)


def step_lot(machine, k):
    """The pair (variables, clauses) that says that an unlike path keeps the wish for k cycles, and not in the next."""
    told = unrolled(machine, k + 1, True)
    builder = Builder(told.graph.leaves)
    put_into(builder, told.graph, own_leaves(told.graph), ())
    asked = [(wish,) for wish in told.wishes[:k]]
    asked.append((told.wishes[k] ^ 1,))
    for later in range(1, k + 1):
        for state in told.states[:later]:
            asked.append([xor_of(builder, one, other) for one, other in zip(state, told.states[later])])
    return lot_of(builder.graph(), asked)


def by_steps(machine, k):
    """FirstBreak of at most k cycles, KeptBySteps, or OpenSteps."""
    need_from("k", k, 0)
    base = ()
    if k > 0:
        begun = first_break(machine, k)
        if isinstance(begun, FirstBreak):
            return begun
        base = begun.papers
    variables, clauses = step_lot(machine, k)
    told = solve(variables, clauses)
    if isinstance(told, Found):
        many = len(machine.resets)
        return OpenSteps(told.assignment[:many], cut_up(told.assignment[many:], machine.inputs, k + 1))
    return KeptBySteps(base, told.lines)


def is_open_path(machine, k, state, rows):
    """Whether any two values are a state and inputs of an unlike path that keeps the wish k times, then not."""
    if not is_row_between(state, len(machine.resets), 0, 1) or not has_tuples_alone(state):
        return False
    if not are_judged_rows(machine, rows) or len(rows) != k + 1:
        return False
    path = path_of(machine, state, rows)
    return [wish for _, wish in path] == [1] * k + [0] and len({ahead: True for ahead, _ in path}) == k + 1


def is_by_steps(machine, k, told):
    """Whether any value is what by_steps describes; a path is let by without looking for breaks."""
    need_from("k", k, 0)
    if isinstance(told, KeptBySteps):
        return are_papers(machine, told.base, k) and is_refutation(step_lot(machine, k)[1], told.step)
    if isinstance(told, OpenSteps):
        return is_open_path(machine, k, told.state, told.rows)
    return is_break_within(machine, k, told)
