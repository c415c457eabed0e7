"""What is asked of the states and cycles of a machine, again and again, of one search.

A switch is a variable that stands in clauses so that these count only where the switch is assumed.
"""

from everycycle.asked import AskedSearch
from everycycle.clauses import clauses_of, now
from everycycle.judge import against, against_wish

# No lines are asked of this search, so its further clauses are all told alike.
NO_LINE = ("given", 0)


class Questions:
    """A machine with levels of state clauses: set i, from 1 on, is that of all clauses of level i and those above.

    Set 0 is that of the reset state. Where the switch of a level is assumed, its clauses and those above it count.
    numbers tell for each level the numbers that its clauses have in the search.
    """

    def __init__(self, machine, levels):
        self.machine = machine
        self.numbers = [{}]
        self.search = AskedSearch(machine.graph.leaves + len(machine.graph.gates), clauses_of(machine.graph))
        self.switches = self.search.put_variables(1)
        for n, bit in enumerate(machine.resets, start=machine.inputs + 1):
            self.search.put_more(NO_LINE, (n if bit == 1 else -n, -self.switches[0]))
        for i, level in enumerate(levels, start=1):
            self.put_level()
            for clause in level:
                self.put_clause(i, clause)

    def put_level(self):
        """Puts a level without clauses above the others."""
        switch = self.search.put_variables(1)[0]
        if len(self.switches) > 1:
            self.search.put_more(NO_LINE, (-self.switches[-1], switch))
        self.switches.append(switch)
        self.numbers.append({})

    def put_clause(self, i, clause):
        """Puts a state clause into level i, unless it stands there."""
        if clause not in self.numbers[i]:
            told = (*now(self.machine, clause), -self.switches[i])
            self.numbers[i][clause] = self.search.put_more(NO_LINE, told)

    def lift_clause(self, i, clause):
        """Puts a state clause of level i into the level above instead, unless it stands there."""
        if clause in self.numbers[i]:
            self.search.leave_out(self.numbers[i].pop(clause))
        self.put_clause(i + 1, clause)

    def is_there(self, i, assumed):
        """Whether some cycle from a state of set i makes all of assumed true."""
        # A switch that is closed closes those of the levels below, but not that of level 0.
        if i == 0:
            closed = self.switches[1:][-1:]
        else:
            closed = [self.switches[0], *self.switches[1:i][-1:]]
        return self.search.answer([self.switches[i], *[-switch for switch in closed], *assumed])

    def pair(self):
        """The pair (state, inputs) of the cycle that was found last."""
        bits = tuple([1 if truth == 1 else 0 for truth in self.search.truths[1:self.machine.graph.leaves + 1]])
        return bits[self.machine.inputs:], bits[:self.machine.inputs]

    def break_from(self, i):
        """A pair (state, inputs), the state in set i, with the wish 0; None if there is none."""
        assumed = against_wish(self.machine)
        if assumed is None or not self.is_there(i, assumed):
            return None
        return self.pair()

    def way_out(self, i, clause):
        """The pair (way, part) for set i and a clause.

        The way is a pair (state, inputs), the state in the set and the clause holding there, but not behind the cycle;
        or None. Then part are literals of the clause one of which holds behind each such cycle, else None.
        """
        assumed = against(self.machine, clause)
        if assumed is None:
            return None, clause
        switch = self.search.put_variables(1)[0]
        number = self.search.put_more(NO_LINE, (*now(self.machine, clause), -switch))
        way, part = None, None
        if self.is_there(i, [switch, *assumed]):
            way = self.pair()
        else:
            part = self.part_behind(clause, self.search.end_literals())
        # The clause is not asked for again.
        self.search.leave_out(number)
        self.search.put_more(NO_LINE, (-switch,))
        return way, part

    def part_behind(self, clause, left):
        """The literals of a clause whose failing behind the cycle is among these literals of the search."""
        used = {literal: True for literal in left}
        return tuple([n for n in clause if [literal for literal in against(self.machine, (n,)) if literal in used]])
