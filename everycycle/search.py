"""The search for an assignment, or for lines that show that there is none.

Lists over literals have 2 * many + 1 places: literal n stands at place n, and -n at place -n, counted from the end.
Clauses and lines are numbered alike: clause n is that of line n.
"""

from heapq import heapify, heappop, heappush

from everycycle.lines import drawn_lines

FIRST_WEIGHT = 1 << 10
GREATEST_WEIGHT = 1 << 58
FEW_CLASHES = 64
FIRST_ROOM = 600
MORE_ROOM = 200


def round_length(k):
    """How long round k is, from 1 on: 1, 1, 2, 1, 1, 2, 4, and so on, each row twice and then twice its last number."""
    while True:
        size = 1
        while 2 * size - 1 < k:
            size *= 2
        if 2 * size - 1 == k:
            return size
        k -= size - 1


class Search:
    """A row of clauses of so many variables, which may be asked for assignments again and again.

    truths has 1 for a true literal, -1 for a false one, otherwise 0. trail are the true literals as they came, starts
    the places in it where the levels from 1 on begin, head how much of it has been spread to the clauses, grounded how
    much of level 0 has lines of its own. For each variable there are its reason, its level, its place in the trail, the
    literal that it was last, the line of its own clause at level 0, and its weight, which tells who is decided first;
    queued tells whether queue has it with this weight.
    """

    def __init__(self, many, clauses):
        self.many = many
        self.truths = [0] * (2 * many + 1)
        self.trail = []
        self.starts = []
        self.head = 0
        self.reasons = [None] * (many + 1)
        self.levels = [0] * (many + 1)
        self.places = [0] * (many + 1)
        self.last = [-n for n in range(many + 1)]
        self.own_lines = [None] * (many + 1)
        self.weights = [0] * (many + 1)
        self.weight = FIRST_WEIGHT
        self.queue = [(0, n) for n in range(1, many + 1)]
        self.queued = [True] * (many + 1)
        self.marked = [False] * (many + 1)
        self.clauses = []
        self.lines = []
        self.pairs = [[] for _ in range(2 * many + 1)]
        self.watching = [[] for _ in range(2 * many + 1)]
        self.false_clause = None
        self.failed = None
        self.grounded = 0
        self.clashes = 0
        self.rounds = 1
        self.glues = {}
        self.room = FIRST_ROOM
        for n, clause in enumerate(clauses):
            self.take(n, list(clause))

    def take(self, n, clause):
        """Takes clause n of the row."""
        self.put_line(("given", n), clause)
        if len(clause) > 1:
            self.watch(n)
        elif len(clause) == 0 or self.truths[clause[0]] == -1:
            if self.false_clause is None:
                self.false_clause = n
        elif self.truths[clause[0]] == 0:
            self.put(clause[0], n)

    def put_line(self, line, clause):
        """Puts a line and its clause behind the others; tells their number."""
        self.lines.append(line)
        self.clauses.append(clause)
        return len(self.lines) - 1

    def watch(self, n):
        """Has clause n looked at when one of its first two literals becomes false."""
        clause = self.clauses[n]
        if len(clause) == 2:
            self.pairs[clause[0]].append((clause[1], n))
            self.pairs[clause[1]].append((clause[0], n))
        else:
            self.watching[clause[0]].append(n)
            self.watching[clause[1]].append(n)

    def put(self, literal, reason):
        """Makes a literal true."""
        self.truths[literal] = 1
        self.truths[-literal] = -1
        variable = abs(literal)
        self.reasons[variable] = reason
        self.levels[variable] = len(self.starts)
        self.places[variable] = len(self.trail)
        self.trail.append(literal)

    def spread(self):
        """Puts what clauses ask for, until none does; the number of a false clause, or None."""
        while self.head < len(self.trail):
            literal = -self.trail[self.head]
            self.head += 1
            for other, n in self.pairs[literal]:
                if self.truths[other] == -1:
                    return n
                if self.truths[other] == 0:
                    self.put(other, n)
            if self.watching[literal]:
                n = self.spread_long(literal)
                if n is not None:
                    return n
        return None

    def spread_long(self, false):
        """Likewise, for the long clauses that watch a literal that has become false."""
        truths, clauses = self.truths, self.clauses
        looking, staying = self.watching[false], []
        self.watching[false] = staying
        for at, n in enumerate(looking):
            clause = clauses[n]
            if clause[0] == false:
                clause[0] = clause[1]
                clause[1] = false
            first = clause[0]
            if truths[first] == 1:
                staying.append(n)
                continue
            for k in range(2, len(clause)):
                if truths[clause[k]] != -1:
                    clause[1] = clause[k]
                    clause[k] = false
                    self.watching[clause[1]].append(n)
                    break
            else:
                staying.append(n)
                if truths[first] == -1:
                    staying.extend(looking[at + 1:])
                    return n
                self.put(first, n)
        return None

    def decide(self, literal):
        """Opens a level by a literal."""
        self.starts.append(len(self.trail))
        self.put(literal, None)

    def go_back(self, level):
        """Takes back all levels above one."""
        if level >= len(self.starts):
            return
        start = self.starts[level]
        for literal in self.trail[start:]:
            self.truths[literal] = 0
            self.truths[-literal] = 0
            variable = abs(literal)
            self.last[variable] = literal
            if not self.queued[variable]:
                self.queued[variable] = True
                heappush(self.queue, (-self.weights[variable], variable))
        del self.trail[start:]
        del self.starts[level:]
        self.head = start

    def heaviest(self):
        """The variable without a value that has the greatest weight; None if there is none."""
        while self.queue:
            weight, variable = heappop(self.queue)
            if weight == -self.weights[variable]:
                self.queued[variable] = False
                if self.truths[variable] == 0:
                    return variable
        return None

    def mark(self, variable):
        """Marks a variable of a clash, which gets heavier."""
        self.marked[variable] = True
        self.weights[variable] += self.weight
        self.queued[variable] = False

    def next_weight(self):
        """Later clashes weigh more; all weights are made less when they are great."""
        self.weight += self.weight >> 4
        if self.weight > GREATEST_WEIGHT:
            self.weight = FIRST_WEIGHT
            self.weights = [weight >> 48 for weight in self.weights]
            self.queue = [(-self.weights[n], n) for n in range(1, self.many + 1)]
            heapify(self.queue)
            self.queued = [True] * (self.many + 1)

    def clash(self, n):
        """What clause n, which is false in the last level, leads to by the reasons of its literals.

        The triple (literals, steps, marked variables): only the first literal is of the last level.
        """
        level, place = len(self.starts), len(self.trail)
        lower, steps, marked, literal, here = [], [], [], 0, 0
        reason = n
        while literal == 0 or here > 0:
            for other in self.clauses[reason]:
                variable = abs(other)
                if not self.marked[variable]:
                    self.mark(variable)
                    marked.append(variable)
                    if self.levels[variable] == level:
                        here += 1
                    elif self.levels[variable] > 0:
                        lower.append(other)
            place -= 1
            while not self.marked[abs(self.trail[place])]:
                place -= 1
            literal = self.trail[place]
            here -= 1
            reason = self.reasons[abs(literal)]
            if here > 0:
                steps.append((abs(literal), reason))
        return [-literal, *lower], steps, marked

    def is_needless(self, literal):
        """Whether the reason of a literal's opposite asks for nothing but marked literals and such of level 0."""
        reason = self.reasons[abs(literal)]
        if reason is None:
            return False
        for other in self.clauses[reason]:
            if not self.marked[abs(other)] and self.levels[abs(other)] > 0:
                return False
        return True

    def learnt(self, n):
        """The pair (literals, steps) that the false clause n leads to: one literal, the first, is of the last level."""
        literals, steps, marked = self.clash(n)
        needless = sorted([(-self.places[abs(other)], other) for other in literals[1:] if self.is_needless(other)])
        left_out = {other: True for _, other in needless}
        ground = {variable: True for variable in marked if self.levels[variable] == 0}
        for _, literal in needless:
            reason = self.reasons[abs(literal)]
            steps.append((abs(literal), reason))
            ground.update({abs(other): True for other in self.clauses[reason] if self.levels[abs(other)] == 0})
        steps.extend([(variable, self.own_lines[variable]) for variable in ground])
        for variable in marked:
            self.marked[variable] = False
        return [literal for literal in literals if literal not in left_out], steps

    def learn(self, n):
        """Learns from clause n, false in the last level, and goes back to where what is learnt asks for a literal."""
        literals, steps = self.learnt(n)
        level = 0
        for at in range(1, len(literals)):
            if self.levels[abs(literals[at])] > level:
                level = self.levels[abs(literals[at])]
                literals[1], literals[at] = literals[at], literals[1]
        number = self.put_line(("chain", n, tuple(steps)), literals)
        if len(literals) > 2:
            self.glues[number] = len({self.levels[abs(literal)]: True for literal in literals})
        self.go_back(level)
        if len(literals) > 1:
            self.watch(number)
        self.put(literals[0], number)
        self.next_weight()
        self.clashes += 1

    def ground(self):
        """Draws for each new literal of level 0 the line of the clause that has it alone."""
        while self.grounded < len(self.trail):
            literal = self.trail[self.grounded]
            self.grounded += 1
            n = self.reasons[abs(literal)]
            steps = [(abs(other), self.own_lines[abs(other)]) for other in self.clauses[n] if other != literal]
            if steps:
                n = self.put_line(("chain", n, tuple(steps)), [literal])
            self.own_lines[abs(literal)] = n

    def end_steps(self):
        """How the clause at which the last answer failed is resolved by reasons, from the end of the trail.

        The pair (steps, literals): what is left are the opposites of these literals, which were assumed.
        """
        n, own = self.failed
        asked = {abs(other): True for other in self.clauses[n] if other != own}
        steps, left = [], [] if own == 0 else [-own]
        for literal in self.trail[::-1]:
            if abs(literal) in asked:
                reason = self.reasons[abs(literal)]
                if reason is None:
                    left.append(literal)
                else:
                    steps.append((abs(literal), reason))
                    asked.update({abs(other): True for other in self.clauses[reason]})
        return steps, left

    def end_literals(self):
        """The assumed literals, not all of which can be true, that made the last answer fail."""
        n, own = self.failed
        asked = {abs(other): True for other in self.clauses[n] if other != own}
        left = [] if own == 0 else [-own]
        first = self.starts[0] if self.starts else len(self.trail)
        for literal in self.trail[first:][::-1]:
            if abs(literal) in asked:
                reason = self.reasons[abs(literal)]
                if reason is None:
                    left.append(literal)
                else:
                    asked.update({abs(other): True for other in self.clauses[reason]})
        return left

    def end_lines(self):
        """The lines that show why the last answer failed."""
        n, _ = self.failed
        steps, _ = self.end_steps()
        if steps:
            return drawn_lines([*self.lines, ("chain", n, tuple(steps))])
        return drawn_lines(self.lines[:n + 1])

    def next_literal(self, assumed):
        """The first assumed literal that is not true; else one to be decided; None if all variables have values."""
        for literal in assumed:
            if self.truths[literal] != 1:
                return literal
        variable = self.heaviest()
        return None if variable is None else self.last[variable]

    def rest(self):
        """Begins anew from level 0 when a round has been long enough: what has been learnt stays."""
        if self.clashes >= FEW_CLASHES * round_length(self.rounds):
            self.clashes = 0
            self.rounds += 1
            self.go_back(0)
            if len(self.glues) > self.room:
                self.forget()

    def forget(self):
        """At level 0, has the worse half of the long clauses that were learnt no longer looked at; their lines stay."""
        ranks = sorted([(glue, len(self.clauses[n]), -n) for n, glue in self.glues.items()])
        left_out = {-rank: True for glue, _, rank in ranks[len(ranks) // 2:] if glue > 2}
        for number in left_out:
            del self.glues[number]
        self.watching = [[n for n in row if n not in left_out] for row in self.watching]
        self.room += MORE_ROOM

    def answer(self, assumed):
        """Whether some assignment satisfies the clauses and makes assumed true: then truths tell one.

        If not, failed is the pair of a clause and a literal of it that is true, the opposite of an assumed one; 0 if
        all of its literals are false.
        """
        self.go_back(0)
        while self.false_clause is None:
            n = self.spread()
            if not self.starts:
                self.ground()
            if n is None:
                self.rest()
                literal = self.next_literal(assumed)
                if literal is None:
                    return True
                if self.truths[literal] == -1:
                    self.failed = (self.reasons[abs(literal)], -literal)
                    return False
                self.decide(literal)
            elif self.starts:
                self.learn(n)
            else:
                self.false_clause = n
        self.failed = (self.false_clause, 0)
        return False

    def ask(self, assumed):
        """The pair (assignment, None), with all of assumed true, or (None, lines) that show that there is none."""
        if self.answer(assumed):
            return tuple([1 if truth == 1 else 0 for truth in self.truths[1:self.many + 1]]), None
        return None, self.end_lines()
