"""Breaks of a machine of at most so many cycles, or papers that there is none."""

from everycycle.clauses import breaks, played, unrolled
from everycycle.errors import BadNumber
from everycycle.graphs import literal_value, node_values
from everycycle.kinds import are_rows_of_bits, has_tuples_alone, is_from, row_kept, tuples_of
from everycycle.lines import is_refutation
from everycycle.lots import Lots, lot_of


class Broken:
    """A break: rows of inputs from reset on, with which the wish is 0 in the last cycle alone."""

    def __init__(self, rows):
        self.rows = row_kept(rows)


class FirstBreak:
    """A break, and a refutation for each lesser number of cycles."""

    def __init__(self, rows, papers):
        self.rows = row_kept(rows)
        self.papers = row_kept(papers)


class NoBreak:
    """A refutation for each number of cycles that was looked at."""

    def __init__(self, papers):
        self.papers = row_kept(papers)


def are_judged_rows(machine, value):
    """Whether any value is a row of inputs of cycles, of tuples alone."""
    return are_rows_of_bits(value, machine.inputs) and has_tuples_alone(value)


def is_break(machine, rows):
    """Whether any value is a break."""
    return are_judged_rows(machine, rows) and breaks(machine, rows)


def one_cycle(machine, state, inputs):
    """The pair (state behind it, wish in it) of one cycle from any state."""
    found = node_values(machine.graph, (*inputs, *state))
    return tuple([literal_value(found, literal) for literal in machine.nexts]), literal_value(found, machine.wish)


def break_lot(machine, many):
    """The pair (variables, clauses) that says that the wish is 0 in the last one of so many cycles from reset."""
    told = unrolled(machine, many, False)
    return lot_of(told.graph, [(told.wishes[-1] ^ 1,)])


def need_from(what, number, least):
    """Raises the error of what is no integer from least on."""
    if not is_from(number, least):
        raise BadNumber(what, number)


def first_break(machine, most):
    """FirstBreak with a break of as few cycles as can be, or NoBreak, if none has at most so many cycles."""
    need_from("most", most, 1)
    lots = Lots(machine)
    papers = []
    for _ in range(most):
        rows, paper = lots.next_lot()
        if paper is None:
            return FirstBreak(rows, papers)
        papers.append(paper)
    return NoBreak(papers)


def are_papers(machine, papers, many):
    """Whether any value is a refutation of break_lot for each number of cycles from 1 to many."""
    if not isinstance(papers, tuple) or len(papers) != many:
        return False
    return all([is_refutation(break_lot(machine, k + 1)[1], paper) for k, paper in enumerate(papers)])


def is_break_within(machine, most, told):
    """Whether any value is a FirstBreak of at most so many cycles."""
    if not isinstance(told, FirstBreak) or not is_break(machine, told.rows) or len(told.rows) > most:
        return False
    return are_papers(machine, told.papers, len(told.rows) - 1)


def is_first_break(machine, most, told):
    """Whether any value is what first_break describes."""
    need_from("most", most, 1)
    if isinstance(told, NoBreak):
        return are_papers(machine, told.papers, most)
    return is_break_within(machine, most, told)


def cut_out(machine, rows):
    """A break without the cycles between the same states: from the first coming of each one on, up to its last one."""
    states = [state for state, _ in played(machine, rows)]
    last = {state: at for at, state in enumerate(states)}
    told, at = [], 0
    while at < len(states):
        told.append(tuples_of(rows[last[states[at]]]))
        at = last[states[at]] + 1
    return tuple(told)
