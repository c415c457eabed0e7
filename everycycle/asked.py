"""A search that takes more variables and clauses between its questions."""

from heapq import heappush

from everycycle.search import Search


class AskedSearch(Search):
    """A search whose variables and clauses become more; each clause comes with its line."""

    def put_variables(self, many):
        """Puts so many variables behind the others; tells their numbers."""
        first = self.many + 1
        numbers = list(range(first, first + many))
        self.truths[first:first] = [0] * (2 * many)
        self.pairs[first:first] = [[] for _ in range(2 * many)]
        self.watching[first:first] = [[] for _ in range(2 * many)]
        self.reasons.extend([None] * many)
        self.own_lines.extend([None] * many)
        self.levels.extend([0] * many)
        self.places.extend([0] * many)
        self.weights.extend([0] * many)
        self.last.extend([-n for n in numbers])
        self.queued.extend([True] * many)
        self.marked.extend([False] * many)
        for n in numbers:
            heappush(self.queue, (0, n))
        self.many += many
        return numbers

    def put_more(self, line, clause):
        """Puts a line and its clause behind the others, to count from now on; tells their number."""
        self.go_back(0)
        free = [literal for literal in clause if self.truths[literal] != -1]
        number = self.put_line(line, [*free, *[literal for literal in clause if self.truths[literal] == -1]])
        if len(free) > 1:
            self.watch(number)
        elif len(free) == 0:
            self.false_clause = number if self.false_clause is None else self.false_clause
        elif self.truths[free[0]] == 0:
            self.put(free[0], number)
        return number

    def leave_out(self, number):
        """Has a clause no longer looked at; its line stays."""
        clause = self.clauses[number]
        if len(clause) == 2:
            for literal, other in (clause, clause[::-1]):
                if (other, number) in self.pairs[literal]:
                    self.pairs[literal].remove((other, number))
        else:
            for literal in clause[:2]:
                if number in self.watching[literal]:
                    self.watching[literal].remove(number)

    def put_end(self):
        """Puts the clause at which the last answer failed, as far as it is resolved; tells its number."""
        n, _ = self.failed
        steps, left = self.end_steps()
        if not steps:
            return n
        return self.put_more(("chain", n, tuple(steps)), [-literal for literal in left])
