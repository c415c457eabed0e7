"""Certificates: state clauses that hold from reset on, with papers that a judge takes by resolving."""

from everycycle.clauses import behind, clause_of, clauses_of, now, satisfies
from everycycle.kinds import has_tuples_alone, row_kept
from everycycle.lines import drawn, is_refutation, roots_of
from everycycle.solver import are_clauses


class Kept:
    """State clauses, and for each of them, and at last for the wish, a refutation or None."""

    def __init__(self, clauses, papers):
        self.clauses = row_kept(clauses)
        self.papers = row_kept(papers)


def given_of(machine, clauses):
    """The clauses of the graph, and behind them those that say that the state clauses hold."""
    return (*clauses_of(machine.graph), *[now(machine, clause) for clause in clauses])


def opposites_of(clause):
    """The opposites of the integers of a clause; None for None."""
    return None if clause is None else tuple([-literal for literal in clause])


def against(machine, clause):
    """What says that a state clause does not hold behind the cycle; None if it always does."""
    return opposites_of(behind(machine, clause))


def against_wish(machine):
    """What says that the wish is 0; None if it never is."""
    return opposites_of(clause_of((machine.wish,)))


def all_against(machine, clauses):
    """What each paper of a certificate with these clauses is held against."""
    return [*[against(machine, clause) for clause in clauses], against_wish(machine)]


def is_kept(machine, told):
    """Whether any value is a Kept that is a certificate of the machine."""
    if not isinstance(told, Kept):
        return False
    clauses, papers = told.clauses, told.papers
    if not are_clauses(len(machine.resets), clauses) or not has_tuples_alone(clauses):
        return False
    if not isinstance(papers, tuple) or len(papers) != len(clauses) + 1:
        return False
    if not all([satisfies(machine.resets, clause) for clause in clauses]):
        return False
    given = given_of(machine, clauses)
    return all([is_paper(given, assumed, paper) for assumed, paper in zip(all_against(machine, clauses), papers)])


def is_paper(given, assumed, paper):
    """Whether any value is None where nothing is assumed, otherwise a refutation under what is assumed."""
    if assumed is None:
        return paper is None
    return is_refutation(given, paper, assumed)


def lessened(machine, kept):
    """The certificate with those clauses alone to which the refutation of the wish goes back."""
    clauses, papers = kept.clauses, kept.papers
    given = given_of(machine, clauses)
    first = len(given) - len(clauses)
    needed = [False] * len(clauses)
    waiting = [len(clauses)]
    while waiting:
        for at in asked_clauses(given, first, papers[waiting.pop()]):
            if not needed[at]:
                needed[at] = True
                waiting.append(at)
    staying = [at for at in range(len(clauses)) if needed[at]]
    places = {first + at: first + k for k, at in enumerate(staying)}
    told = [drawn_anew(given, places, papers[at]) for at in (*staying, len(clauses))]
    return Kept([tuple(clauses[at]) for at in staying], told)


def asked_clauses(given, first, paper):
    """The places of the state clauses among the roots of a paper; they are given from number first on."""
    if paper is None:
        return []
    return [n - first for n in roots_of(given, paper) if n >= first]


def drawn_anew(given, places, paper):
    """A paper drawn, with the numbers of given clauses that have other places now."""
    if paper is None:
        return None
    told = []
    for line in drawn(given, paper):
        told.append(("given", places.get(line[1], line[1])) if line[0] == "given" else line)
    return tuple(told)
