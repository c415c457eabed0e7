"""Machines made by a fixed rule, and searches over all their states, apart from the program."""

from itertools import product

from everycycle.clauses import Machine
from everycycle.graphs import Builder, Graph, choice_of, or_of
from tests.fixed import Rule
from tests.nets import all_bits, value_of
from tests.test_machines import some_machine


def table_machine(rule, most_inputs=2, most_registers=3, wanted=2):
    """A machine that goes from state to state as a table tells that is made by the rule; few cycles break its wish."""
    inputs, registers = rule.pick(most_inputs + 1), rule.pick(most_registers + 1)
    builder = Builder(inputs + registers)
    nexts, wish = [0] * registers, 1
    near = rule.pick(3)
    for bits in all_bits(inputs + registers):
        place = 1
        for n, bit in enumerate(bits):
            place = builder.and_of(place, 2 * n + 2 + 1 - bit)
        state = bits[inputs:]
        if near:
            # To itself, or to a state that is like it but for one bit: so it takes many cycles to go far.
            at = rule.pick(registers) if registers else 0
            behind = [bit ^ (1 if n == at and rule.pick(near) == 0 else 0) for n, bit in enumerate(state)]
        else:
            behind = [rule.pick(2) for _ in state]
        nexts = [or_of(builder, literal, place) if bit else literal for literal, bit in zip(nexts, behind)]
        if rule.pick(2 ** (inputs + registers)) < wanted and rule.pick(2):
            wish = builder.and_of(wish, place ^ 1)
    return Machine(builder.graph(), inputs, tuple(rule.pick(2) for _ in nexts), tuple(nexts), wish)


def counter(width, reset, last, broken, inputs=0):
    """A counter of some bits that goes from last to 0, and that waits unless all inputs are 1; at broken the wish is 0."""
    builder = Builder(inputs + width)
    word = [2 * (inputs + n) + 2 for n in range(width)]

    def is_number(number):
        told = 1
        for n, literal in enumerate(word):
            told = builder.and_of(told, literal ^ 1 ^ (number >> n & 1))
        return told

    on = 1
    for n in range(inputs):
        on = builder.and_of(on, 2 * n + 2)
    carry, more = 1, []
    for literal in word:
        more.append(or_of(builder, builder.and_of(literal, carry ^ 1), builder.and_of(literal ^ 1, carry)))
        carry = builder.and_of(carry, literal)
    round_off = is_number(last) ^ 1
    more = [builder.and_of(literal, round_off) for literal in more]
    nexts = [choice_of(builder, on, new, old) for new, old in zip(more, word)]
    wish = is_number(broken) ^ 1
    resets = tuple(reset >> n & 1 for n in range(width))
    return Machine(builder.graph(), inputs, resets, nexts, wish)


def free_machine(registers, wish_of):
    """A machine whose inputs are its next state, with a wish that wish_of(builder, inputs, registers) tells."""
    builder = Builder(2 * registers)
    ahead = [2 * n for n in range(1, registers + 1)]
    now = [2 * n for n in range(registers + 1, 2 * registers + 1)]
    wish = wish_of(builder, ahead, now)
    return Machine(builder.graph(), registers, (0,) * registers, ahead, wish)


def plain_machines():
    """Machines without registers, without inputs, with constant wishes and nexts, and such as that."""
    told = []
    for inputs, registers in product((0, 1, 2), (0, 1, 2)):
        graph = Graph(inputs + registers, ((2, 4),) if inputs + registers > 1 else ())
        many = 2 * (1 + graph.leaves + len(graph.gates))
        for wish in {0, 1, many - 2, many - 1}:
            for literal in {0, 1, many - 2, many - 1}:
                told.append(Machine(graph, inputs, (1, 0)[:registers], (literal, 1)[:registers], wish))
    return told


def many_machines(many, first, most_inputs=2, most_registers=3):
    """So many machines of several kinds."""
    told = []
    for number in range(many):
        rule = Rule(number + first)
        if number % 4 == 0:
            told.append(some_machine(rule, most_inputs, most_registers, 14))
        elif number % 4 == 1:
            width = 1 + rule.pick(most_registers)
            numbers = [rule.pick(2 ** width) for _ in range(3)]
            told.append(counter(width, *numbers, rule.pick(most_inputs + 1)))
        else:
            told.append(table_machine(rule, most_inputs, most_registers))
    return told


def table_of(machine):
    """For each state a dict: for each row of inputs' bits the pair (state behind, wish)."""
    told = {}
    for state in all_bits(len(machine.resets)):
        told[state] = {}
        for row in all_bits(machine.inputs):
            bits = (*row, *state)
            behind = tuple(value_of(machine.graph, bits, literal) for literal in machine.nexts)
            told[state][row] = (behind, value_of(machine.graph, bits, machine.wish))
    return told


def states_come_to(machine, table):
    """The list of sets of states: those that 0, 1, 2 .. cycles lead to from reset at the least."""
    layers, seen = [{machine.resets}], {machine.resets}
    while layers[-1]:
        new = {behind for state in layers[-1] for behind, _ in table[state].values()} - seen
        seen |= new
        layers.append(new)
    return layers[:-1]


def least_cycles(machine, table):
    """How many cycles a least break has; None if there is none."""
    for at, layer in enumerate(states_come_to(machine, table)):
        if any(wish == 0 for state in layer for _, wish in table[state].values()):
            return at + 1
    return None


def played_by(machine, table, rows):
    """The list of pairs (state, wish) of the cycles from reset."""
    return path_by(table, machine.resets, rows)


def path_by(table, state, rows):
    """Likewise, from any state."""
    told = []
    for row in rows:
        behind, wish = table[state][tuple(row)]
        told.append((state, wish))
        state = behind
    return told


def is_break_by(machine, table, rows):
    """Whether rows of inputs are a break."""
    wishes = [wish for _, wish in played_by(machine, table, rows)]
    return wishes[-1:] == [0] and wishes.count(0) == 1


def doubled():
    """A machine with two registers that take alike what one input and not the other is, told by unlike gates."""
    builder = Builder(4)
    one = or_of(builder, builder.and_of(2, 5), builder.and_of(3, 4))
    other = builder.and_of(or_of(builder, 2, 4), builder.and_of(2, 4) ^ 1)
    unlike = or_of(builder, builder.and_of(6, 9), builder.and_of(7, 8))
    return Machine(builder.graph(), 2, (1, 1), (one, other), unlike ^ 1)
