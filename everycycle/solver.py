"""Assignments that satisfy clauses, or refutations; and the acts of the search, each by itself."""

from everycycle.clauses import satisfies
from everycycle.errors import BadNumber, BadRow
from everycycle.kinds import is_between, is_from, is_row, row_kept
from everycycle.lines import clause_with, is_refutation, needed_lines, resolve_in
from everycycle.search import Search


def is_literal(many, value):
    """Whether any value is a literal of the variables from 1 to many."""
    return is_between(value, -many, many) and value != 0


def is_trail(many, row, trail):
    """Whether any value is a trail of a row of clauses."""
    if not isinstance(trail, tuple) or len(trail) == 0:
        return False
    ahead = {}
    for at, level in enumerate(trail):
        if not isinstance(level, tuple) or (at > 0 and len(level) == 0):
            return False
        for place, entry in enumerate(level):
            if not is_entry(many, row, ahead, entry, at > 0 and place == 0):
                return False
            ahead[entry[0]] = True
    return True


def is_entry(many, row, ahead, entry, decides):
    """Whether any value is an entry behind these true literals, at the place of a decision or at another one."""
    if not isinstance(entry, tuple) or len(entry) != 2:
        return False
    literal, reason = entry
    if not is_literal(many, literal) or literal in ahead or -literal in ahead:
        return False
    if decides:
        return reason is None
    return is_between(reason, 0, len(row) - 1) and is_reason(row[reason], literal, ahead)


def is_reason(clause, literal, ahead):
    """Whether a clause asks for a literal, all others of its literals being false."""
    return literal in clause and all([other == literal or -other in ahead for other in clause])


def trail_rank(many, trail):
    """The rank of a trail."""
    told = 0
    for at in range(many + 1):
        told = told * (many + 1) + (len(trail[at]) if at < len(trail) else 0)
    return told


def true_literals(trail):
    """The true literals of a trail, as a dict."""
    return {literal: True for level in trail for literal, _ in level}


def units(many, row, trail):
    """The pair (trail, n) with all entries that clauses ask for; n is a clause with false literals alone, or None."""
    true = true_literals(trail)
    level = list(trail[-1])
    n, literal = what_is_asked(row, true)
    while literal is not None:
        true[literal] = True
        level.append((literal, n))
        n, literal = what_is_asked(row, true)
    return (*trail[:-1], tuple(level)), n


def what_is_asked(row, true):
    """A clause with false literals alone, and None; else a clause and the only literal it leaves; else two None."""
    asked = (None, None)
    for n, clause in enumerate(row):
        left = [literal for literal in clause if -literal not in true]
        if len(left) == 0:
            return n, None
        if len(left) == 1 and left[0] not in true:
            asked = (n, left[0])
    return asked


def learnt(many, row, trail, n):
    """The triple (line, clause, level) of a clause of false literals, one of them of the last level."""
    held = {literal: True for literal in row[n]}
    steps = []
    for literal, reason in trail[-1][::-1]:
        if -literal in held and len(held_in(held, trail[-1])) > 1:
            resolve_in(held, row[reason], abs(literal))
            steps.append((abs(literal), reason))
    level = 0
    for at, entries in enumerate(trail[:-1]):
        if held_in(held, entries):
            level = at
    line = ("chain", n, tuple(steps)) if steps else ("given", n)
    return line, clause_with(held), level


def held_in(held, level):
    """The literals held that are false by a level."""
    return [-literal for literal, _ in level if -literal in held]


def gone_back(trail, level, literal, n):
    """The levels of a trail up to one, with a literal and its reason at the end."""
    return (*trail[:level], (*trail[level], (literal, n)))


class Found:
    """An assignment that satisfies the clauses and makes what is assumed true."""

    def __init__(self, assignment):
        self.assignment = row_kept(assignment)


class Barred:
    """Lines that show that there is no such assignment."""

    def __init__(self, lines):
        self.lines = row_kept(lines)


def are_clauses(many, value):
    """Whether any value is a row of clauses of the variables from 1 to many."""
    return is_row(value) and all([is_clause(many, clause) for clause in value])


def is_clause(many, value):
    """Whether any value is a clause of the variables from 1 to many."""
    if not is_row(value):
        return False
    last = 0
    for literal in value:
        if not is_literal(many, literal) or abs(literal) <= last:
            return False
        last = abs(literal)
    return True


def are_unlike(many, value):
    """Whether any value is a row of literals of unlike variables from 1 to many."""
    if not is_row(value) or not all([is_literal(many, literal) for literal in value]):
        return False
    return len({abs(literal): True for literal in value}) == len(value)


def need_question(many, clauses, assumed):
    """Raises the first error of what solve is asked."""
    if not is_from(many, 0):
        raise BadNumber("many", many)
    if not are_clauses(many, clauses):
        raise BadRow(clauses)
    if not are_unlike(many, assumed):
        raise BadRow(assumed)


def solve(many, clauses, assumed=()):
    """Found with an assignment that satisfies the clauses and makes assumed true, or Barred with a refutation."""
    need_question(many, clauses, assumed)
    assignment, lines = Search(many, clauses).ask(assumed)
    return Found(assignment) if lines is None else Barred(lines)


def is_solved(many, clauses, assumed, told):
    """Whether any value is what solve describes."""
    need_question(many, clauses, assumed)
    if isinstance(told, Found):
        return is_answer(many, clauses, assumed, told.assignment)
    if isinstance(told, Barred):
        return is_refutation(clauses, told.lines, assumed) and all(needed_lines(told.lines))
    return False


def is_answer(many, clauses, assumed, value):
    """Whether any value is an assignment that satisfies the clauses and makes assumed true."""
    if not isinstance(value, tuple) or len(value) != many or not all([is_between(bit, 0, 1) for bit in value]):
        return False
    return all([satisfies(value, clause) for clause in clauses]) and all([satisfies(value, (n,)) for n in assumed])
