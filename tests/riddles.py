"""Rows of clauses that several tests ask for."""

from itertools import combinations


def pigeons(many, holes):
    """The pair (variables, clauses) that says that so many pigeons sit in holes, no two of them in one."""
    def sits(pigeon, hole):
        return 1 + pigeon * holes + hole

    clauses = [tuple(sits(pigeon, hole) for hole in range(holes)) for pigeon in range(many)]
    for hole in range(holes):
        for one, other in combinations(range(many), 2):
            clauses.append((-sits(one, hole), -sits(other, hole)))
    return many * holes, tuple(clauses)


def parities(many, odd):
    """The pair (variables, clauses) of a ring of so many variables, each one unlike the next one, but odd ones alike."""
    clauses = []
    for n in range(1, many + 1):
        a, b = sorted((n, n % many + 1))
        signs = ((1, 1), (-1, -1)) if n > odd else ((1, -1), (-1, 1))
        clauses.extend((a * one, b * other) for one, other in signs)
    return many, tuple(clauses)
