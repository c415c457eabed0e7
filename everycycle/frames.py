"""Sets of states that grow until two are alike, or until a way leads from reset to a break."""

from everycycle.bits import number_bits
from everycycle.bounded import Broken, one_cycle
from everycycle.clauses import satisfies
from everycycle.judge import Kept, against, against_wish, given_of
from everycycle.kinds import row_kept, tuples_of
from everycycle.questions import Questions
from everycycle.search import Search
from everycycle.tables import Table, is_small


def holds_at(clause, state):
    """Whether a state clause holds at a state."""
    return satisfies(state, clause)


def in_set(machine, clauses, state):
    """Whether a state is in the set that clauses tell; None tells that of the reset state alone."""
    if clauses is None:
        return tuple(state) == machine.resets
    return all([holds_at(clause, state) for clause in clauses])


def not_state(state):
    """The state clause that each state but this one satisfies."""
    return tuple([-n if bit == 1 else n for n, bit in enumerate(state, start=1)])


class Way:
    """A state and inputs of a cycle that leads from it to the state that was asked for."""

    def __init__(self, state, inputs):
        self.state = row_kept(state)
        self.inputs = row_kept(inputs)


class Shut:
    """A clause that holds at reset and behind a cycle from each state of a set at which it holds."""

    def __init__(self, clause):
        self.clause = row_kept(clause)


def asked_of(machine, clauses):
    """The pair (questions, number of the set that clauses tell)."""
    if clauses is None:
        return Questions(machine, ()), 0
    return Questions(machine, (tuples_of(clauses),)), 1


def break_in(machine, clauses):
    """A pair (state, inputs), the state in the set that clauses tell, with the wish 0; None if there is none."""
    questions, i = asked_of(machine, clauses)
    return questions.break_from(i)


def way_past(machine, clauses, clause):
    """A pair (state, inputs) of a cycle from the set and a clause to where the clause does not hold, or None."""
    questions, i = asked_of(machine, clauses)
    return questions.way_out(i, tuple(clause))[0]


def shut(machine, clauses, state):
    """Way with a cycle that leads from the set to a state, but from itself; or Shut, if there is none."""
    questions, i = asked_of(machine, clauses)
    return shut_in(questions, i, state)


def shut_in(questions, i, state):
    """What shut tells of set i of the questions."""
    clause = not_state(state)
    way, part = questions.way_out(i, clause)
    if part is None:
        return Way(way[0], way[1])
    return Shut(least_part(questions, i, part_at_reset(questions.machine, part, clause)))


def part_at_reset(machine, part, clause):
    """A part of a clause, with a literal more of the clause if it needs one to hold at reset."""
    if satisfies(machine.resets, part):
        return part
    more = [n for n in clause if satisfies(machine.resets, (n,))]
    return tuple([n for n in clause if n in part or n == more[0]])


def part_into(questions, i, clause):
    """A part of a clause that holds at reset and into which set i leads beside itself; None for a wrong clause."""
    if not satisfies(questions.machine.resets, clause):
        return None
    _, part = questions.way_out(i, clause)
    return None if part is None else part_at_reset(questions.machine, part, clause)


def least_part(questions, i, clause):
    """A part of a clause, as part_into tells of it, none of whose literals can be left out."""
    at, failed = 0, 0
    while failed < len(clause):
        at = at if at < len(clause) else 0
        part = part_into(questions, i, (*clause[:at], *clause[at + 1:]))
        if part is None:
            at += 1
            failed += 1
        else:
            clause = part
            failed = 0
    return clause


class Frames:
    """Levels of state clauses of a machine, and a stack of cycles that lead one to the other, the last to a break."""

    def __init__(self, machine, levels, stack):
        self.machine = row_kept(machine)
        self.levels = row_kept(levels)
        self.stack = row_kept(stack)


def begun(machine):
    """Frames without levels and stack."""
    return Frames(machine, (), ())


def frame(frames, i):
    """The clauses of set i, sorted, each once; None for set 0."""
    if i == 0:
        return None
    found = {tuple(clause): True for level in frames.levels[i - 1:] for clause in level}
    return tuple(sorted(list(found)))


def all_bits(many):
    """All rows of so many 0 and 1."""
    return [number_bits(many, number) for number in range(1 << many)]


def first_set(levels, state):
    """The number of the least set, from 1 on, in which a state is, by the levels; one more than they are for none."""
    for k in reversed(range(len(levels))):
        if not all([holds_at(clause, state) for clause in levels[k]]):
            return k + 2
    return 1


def stands(frames):
    """Whether what always holds is so, looked at state by state."""
    levels, stack, machine = frames.levels, tuples_of(frames.stack), frames.machine
    k = len(levels)
    inputs = all_bits(machine.inputs)
    places = {state: first_set(levels, state) for state in all_bits(len(machine.resets))}
    cycles = {state: {row: one_cycle(machine, state, row) for row in inputs} for state in places}
    if k > 0 and (places[machine.resets] > 1 or not do_cycles_stand(places, cycles[machine.resets], 0)):
        return False
    # Each set from 1 on lies in those above, so the least one in which a state is asks for the most.
    if not all([do_cycles_stand(places, cycles[state], i) for state, i in places.items() if i < k]):
        return False
    return len(stack) <= k + 1 and all([
        does_item_stand(machine, places, cycles, stack, at, k - at) for at in range(len(stack))
    ])


def do_cycles_stand(places, told, i):
    """Whether cycles, by their inputs, lead from a state of set i, which is not the last one, as they must."""
    return all([places[behind] <= i + 1 and wish == 1 for behind, wish in told.values()])


def does_item_stand(machine, places, cycles, stack, at, i):
    """Whether an item of the stack is one of a state of set i that leads to the item below, or to a break."""
    state, inputs = stack[at]
    if state not in cycles or inputs not in cycles[state]:
        return False
    behind, wish = cycles[state][inputs]
    is_in_place = places[state] <= i if i > 0 else state == machine.resets
    if not is_in_place:
        return False
    return wish == 0 if at == 0 else behind == stack[at - 1][0]


def stepped(frames):
    """The next Frames, or the answer: Broken or Kept."""
    levels, stack = tuples_of(frames.levels), tuples_of(frames.stack)
    return next_frames(Questions(frames.machine, levels), Frames(frames.machine, levels, stack))


def next_frames(questions, frames):
    """Likewise, with questions that have the levels; they get what comes into these."""
    machine, levels, stack = frames.machine, frames.levels, frames.stack
    if stack and stack[-1][0] == machine.resets:
        return Broken([inputs for _, inputs in stack[::-1]])
    if stack:
        return with_shut(questions, frames, len(levels) + 1 - len(stack))
    pair = questions.break_from(len(levels))
    if pair is not None:
        return Frames(machine, levels, (pair,))
    questions.put_level()
    higher = lifted(questions, (*levels, ()))
    for i in range(1, len(higher)):
        if higher[i - 1] == ():
            return kept_with(machine, frame(Frames(machine, higher, ()), i + 1))
    return Frames(machine, higher, ())


def with_shut(questions, frames, i):
    """The next Frames for a stack whose last item has the level i."""
    machine, levels, stack = frames.machine, frames.levels, frames.stack
    told = shut_in(questions, i - 1, stack[-1][0])
    if isinstance(told, Way):
        return Frames(machine, levels, (*stack, (told.state, told.inputs)))
    questions.put_clause(i, told.clause)
    return Frames(machine, with_clause(levels, i, told.clause), stack[:-1])


def with_clause(levels, i, clause):
    """The levels with a clause in level i."""
    if clause in levels[i - 1]:
        return levels
    return (*levels[:i - 1], (*levels[i - 1], clause), *levels[i:])


def lifted(questions, levels):
    """The levels, each clause having gone up one as often as the set of its level leads into it beside itself."""
    for i in range(1, len(levels)):
        level, staying = levels[i - 1], []
        for clause in level:
            if questions.way_out(i, clause)[1] is None:
                staying.append(clause)
            else:
                questions.lift_clause(i, clause)
                levels = with_clause(levels, i + 1, clause)
        levels = (*levels[:i - 1], tuple(staying), *levels[i:])
    return levels


def kept_with(machine, clauses):
    """The certificate with these clauses."""
    search = Search(machine.graph.leaves + len(machine.graph.gates), given_of(machine, clauses))
    asked = [*[against(machine, clause) for clause in clauses], against_wish(machine)]
    return Kept(clauses, [None if assumed is None else search.ask(assumed)[1] for assumed in asked])


def measure(frames):
    """What falls from step to step: how many levels may still come, how many states the sets have, the last level."""
    machine, levels = frames.machine, frames.levels
    k = len(levels)
    states = all_bits(len(machine.resets))
    return len(states) - k, sum([k + 1 - first_set(levels, state) for state in states]), k + 1 - len(frames.stack)


def settle(machine):
    """Broken with a least break, or Kept with a certificate."""
    questions = Table(machine) if is_small(machine) else Questions(machine, ())
    told = begun(machine)
    while isinstance(told, Frames):
        told = next_frames(questions, told)
    return told
