"""What is asked of a machine with so few states and inputs that all of its cycles can be worked: no search is needed.

A mask tells of all states at once: bit n of it of the state whose bits are those of the number n, the lowest first.
"""

from everycycle.bits import number_bits

MOST_REGISTERS = 11
MOST_INPUTS = 8


def is_small(machine):
    """Whether a machine has so few states and inputs."""
    return len(machine.resets) <= MOST_REGISTERS and machine.inputs <= MOST_INPUTS


def bit_masks(many):
    """For each of so many bits the mask of the numbers in which it is 1."""
    masks = []
    for n in range(many):
        half = 1 << n
        masks = [mask | mask << half for mask in masks]
        masks.append(((1 << half) - 1) << half)
    return masks


def literal_masks(graph, leaves, every):
    """For each literal of a graph the mask of the states at which it is 1.

    leaves are the masks of the leaves, every is that of all states.
    """
    masks = [0, every]
    for mask in leaves:
        masks.extend([mask, mask ^ every])
    for one, other in graph.gates:
        mask = masks[one] & masks[other]
        masks.extend([mask, mask ^ every])
    return masks


class Table:
    """A machine with levels of state clauses, which tells what Questions tell.

    sets are the masks of the sets, holding those of the states at which a literal of a state clause is true. rows have
    for each row of inputs the masks of the states behind whose cycle such a literal is true, and of those with the
    wish 0.
    """

    def __init__(self, machine):
        self.machine = machine
        registers = bit_masks(len(machine.resets))
        self.every = (1 << (1 << len(registers))) - 1
        self.holding = {n: mask for n, mask in enumerate(registers, start=1)}
        self.holding.update({-n: mask ^ self.every for n, mask in enumerate(registers, start=1)})
        self.rows = [self.row(number_bits(machine.inputs, n), registers) for n in range(1 << machine.inputs)]
        self.sets = [1 << sum([bit << n for n, bit in enumerate(machine.resets)])]

    def row(self, inputs, registers):
        """The triple (inputs, behind, breaks) for a row of inputs."""
        masks = literal_masks(self.machine.graph, [*[self.every * bit for bit in inputs], *registers], self.every)
        behind = {n: masks[literal] for n, literal in enumerate(self.machine.nexts, start=1)}
        behind.update({-n: masks[literal ^ 1] for n, literal in enumerate(self.machine.nexts, start=1)})
        return inputs, behind, masks[self.machine.wish ^ 1]

    def held(self, clause):
        """The mask of the states at which a clause holds."""
        mask = 0
        for n in clause:
            mask |= self.holding[n]
        return mask

    def put_level(self):
        """Puts a level without clauses above the others."""
        self.sets.append(self.every)

    def put_clause(self, i, clause):
        """Puts a state clause into level i."""
        held = self.held(clause)
        for at in range(1, i + 1):
            self.sets[at] &= held

    def lift_clause(self, i, clause):
        """Puts a state clause of level i into the level above instead."""
        self.sets[i + 1] &= self.held(clause)

    def state(self, mask):
        """The last state of a mask."""
        return number_bits(len(self.machine.resets), mask.bit_length() - 1)

    def break_from(self, i):
        """A pair (state, inputs), the state in set i, with the wish 0; None if there is none."""
        for inputs, _, breaks in self.rows:
            found = self.sets[i] & breaks
            if found != 0:
                return self.state(found), inputs
        return None

    def way_out(self, i, clause):
        """The pair (way, part) for set i and a clause, as Questions tell it."""
        here = self.sets[i] & self.held(clause)
        for inputs, behind, _ in self.rows:
            found = here
            for n in clause:
                found &= behind[-n]
            if found != 0:
                return (self.state(found), inputs), None
        return None, clause
