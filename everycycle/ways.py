"""Levels of state clauses, and cycles from state to state that are known: looked at before any search is asked."""

# Most ways that are looked for have just been found for a clause that is much the same.
MOST_WAYS = 64


def state_number(state):
    """The number that stands for a state here: bit n of it is that of register n."""
    return sum([bit << n for n, bit in enumerate(state)])


def mask_of(clause):
    """The pair (mask, turned) of a state clause: it holds at a state if, with bits turned, one of the mask is 1."""
    mask = sum([1 << (abs(n) - 1) for n in clause])
    return mask, sum([1 << (-n - 1) for n in clause if n < 0])


class Ways:
    """Set i, from 1 on, is that of all clauses of level i and those above; set 0 is that of the reset state.

    levels have the masks of their clauses, level 0 none. A way is a triple: the numbers of a state and of the one
    behind a cycle, and the pair (state, inputs) of it. found are the last ones, stops those that have kept clauses
    from going up.
    """

    def __init__(self, machine):
        self.reset = state_number(machine.resets)
        self.levels = [{}]
        self.found = []
        self.stops = {}

    def put_clause(self, i, clause):
        """Puts a clause into level i."""
        self.levels[i][clause] = mask_of(clause)

    def put_way(self, i, clause, pair, behind):
        """Puts a way, by the pair (state, inputs), that leads from set i and a clause to where the clause fails."""
        way = (state_number(pair[0]), state_number(behind), pair)
        self.found.append(way)
        del self.found[:-MOST_WAYS]
        if clause in self.levels[i]:
            self.stops[clause] = way

    def is_in(self, i, number):
        """Whether the state with a number is in set i."""
        if i == 0:
            return number == self.reset
        for level in self.levels[i:]:
            for mask, turned in level.values():
                if (number ^ turned) & mask == 0:
                    return False
        return True

    def known(self, i, clause):
        """The pair (state, inputs) of a way from set i and a clause to where the clause does not hold, or None."""
        stop = self.stops.get(clause)
        if stop is not None and self.is_in(i, stop[0]):
            return stop[2]
        mask, turned = mask_of(clause)
        fitting = [way for way in self.found if (way[0] ^ turned) & mask != 0 and (way[1] ^ turned) & mask == 0]
        for way in fitting[::-1]:
            if self.is_in(i, way[0]):
                self.found.remove(way)
                self.found.append(way)
                return way[2]
        return None
