"""Clauses drawn from clauses by resolving, line by line."""

from everycycle.errors import BadRow
from everycycle.kinds import is_between, is_from


def resolvent(one, other, variable):
    """The resolvent of two clauses on a variable; None if they have none."""
    held = {literal: True for literal in one}
    if not resolve_in(held, other, variable):
        return None
    return clause_with(held)


def clause_with(held):
    """The clause of the literals held."""
    return tuple(sorted(list(held), key=abs))


def resolve_in(held, clause, variable):
    """Makes of the literals held their resolvent with a clause; tells whether there is one (if not, held is spoilt)."""
    literal = variable if variable in held else -variable
    if literal not in held or -literal not in clause:
        return False
    del held[literal]
    for other in clause:
        if other != -literal:
            if -other in held:
                return False
            held[other] = True
    return True


def line_clauses(clauses, lines):
    """The clauses of all lines of a row of clauses."""
    told = clauses_told(clauses, lines)
    if told is None:
        raise BadRow(lines)
    return told


def clauses_told(clauses, lines):
    """The clauses of all lines; None for any value that is no lines."""
    if not isinstance(lines, tuple):
        return None
    told = []
    for line in lines:
        clause = clause_told(clauses, told, line)
        if clause is None:
            return None
        told.append(clause)
    return tuple(told)


def clause_told(clauses, ahead, line):
    """The clause of a line behind lines with these clauses; None for any value that is no such line."""
    if not isinstance(line, tuple) or len(line) < 2 or not isinstance(line[0], str):
        return None
    if line[0] == "given" and len(line) == 2 and is_between(line[1], 0, len(clauses) - 1):
        return tuple(clauses[line[1]])
    if line[0] == "chain" and len(line) == 3 and is_between(line[1], 0, len(ahead) - 1):
        return chain_told(ahead, ahead[line[1]], line[2])
    return None


def chain_told(ahead, first, steps):
    """The clause of a chain that begins with a clause; None if these are no steps of it."""
    if not isinstance(steps, tuple) or len(steps) == 0:
        return None
    held = {literal: True for literal in first}
    for step in steps:
        if not isinstance(step, tuple) or len(step) != 2:
            return None
        variable, at = step
        if not is_from(variable, 1) or not is_between(at, 0, len(ahead) - 1):
            return None
        if not resolve_in(held, ahead[at], variable):
            return None
    return clause_with(held)


def is_refutation(clauses, lines, assumed=()):
    """Whether any value is lines that show that no assignment satisfies the clauses and makes all of assumed true."""
    told = clauses_told(clauses, lines)
    if told is None or len(told) == 0:
        return False
    against = {-literal: True for literal in assumed}
    return all([literal in against for literal in told[-1]])


def asked_by(line):
    """The indices of the lines that a line's chain names."""
    if line[0] == "given":
        return []
    return [line[1], *[at for _, at in line[2]]]


def needed_lines(lines):
    """For each line whether the last one goes back to it."""
    needed = [False] * len(lines)
    needed[-1] = True
    for at in reversed(range(len(lines))):
        if needed[at]:
            for other in asked_by(lines[at]):
                needed[other] = True
    return needed


def need_lines(clauses, lines):
    """Raises the error of what is no lines, or none at all."""
    if len(line_clauses(clauses, lines)) == 0:
        raise BadRow(lines)


def roots_of(clauses, lines):
    """The numbers of the clauses to which the last line goes back."""
    need_lines(clauses, lines)
    found = {line[1]: True for line, needed in zip(lines, needed_lines(lines)) if needed and line[0] == "given"}
    return tuple(sorted(list(found)))


def drawn(clauses, lines):
    """Those lines alone to which the last one goes back."""
    need_lines(clauses, lines)
    return drawn_lines(lines)


def drawn_lines(lines):
    """Likewise, of one or more lines that are right."""
    told, places, given = [], {}, {}
    for at, needed in enumerate(needed_lines(lines)):
        line = lines[at]
        if needed and line[0] == "given" and line[1] in given:
            places[at] = given[line[1]]
        elif needed:
            places[at] = len(told)
            if line[0] == "given":
                given[line[1]] = len(told)
                told.append(line)
            else:
                told.append(("chain", places[line[1]], tuple([(variable, places[n]) for variable, n in line[2]])))
    return tuple(told)
