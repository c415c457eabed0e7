"""Words, cycles and runs: the plain meaning of designs."""

from everycycle.errors import BadRow, NoName
from everycycle.kinds import has_tuples_alone, is_row, tuples_of
from everycycle.parts import folded
from everycycle.states import (
    HELD, are_words, input_widths, is_state_of, items_by_module, items_called, of_kinds, top_of,
)
from everycycle.words import part_word


def word_of(expression, names):
    """The pair (width, word) of an expression, from those of what it names; a memory has (width, row of words)."""
    return folded(expression, part_word, names)


def item_reset(resets, item):
    """The reset state of a reg, a memory or a use, from those of the modules ahead."""
    if item[0] == "reg":
        return item[3]
    if item[0] == "memory":
        return (0,) * (1 << item[3])
    return resets[item[2]]


def reset_of(design, module):
    """The reset state of a module, told by its name."""
    resets = {}
    for _, name, items in design:
        resets[name] = tuple([item_reset(resets, item) for item in of_kinds(items, HELD)])
    if module not in resets:
        raise NoName(module)
    return resets[module]


def is_state(design, module, value):
    """Whether any value is a state of a module."""
    modules = items_by_module(design)
    return is_state_of(modules, items_called(modules, module), value) and has_tuples_alone(value)


def are_inputs(design, module, value):
    """Whether any value is a row of words for the inputs of a module."""
    items = items_called(items_by_module(design), module)
    return are_words(value, input_widths(items)) and has_tuples_alone(value)


class Work:
    """A module in one cycle, as far as its items are worked.

    modules are the items of all modules, by name; held the states of its regs, memories and uses, and given the words
    of its inputs, by name. names is what word_of asks for, signals what has come so far; behind are the next states,
    by name, in the order of the items.
    """

    def __init__(self, modules, items, state, words):
        self.modules = modules
        self.held = dict(zip([item[1] for item in of_kinds(items, HELD)], state))
        self.given = dict(zip([item[1] for item in of_kinds(items, ("input",))], words))
        self.names = {}
        self.signals = []
        self.behind = {}

    def word(self, expression):
        """The word of an expression by what stands ahead."""
        return word_of(expression, self.names)[1]


def work_input(work, item):
    """An input has the word that is given."""
    work.names[item[1]] = (item[2], work.given[item[1]])


def work_reg(work, item):
    """A reg has its word, and keeps it unless a next comes."""
    word = work.held[item[1]]
    work.names[item[1]] = (item[2], word)
    work.behind[item[1]] = word


def work_memory(work, item):
    """A memory has its words, and keeps them unless writes come."""
    row = tuple(work.held[item[1]])
    work.names[item[1]] = (item[2], row)
    work.behind[item[1]] = row


def work_signal(work, item):
    """A wire or an output has the word of its expression."""
    word = work.word(item[3])
    work.names[item[1]] = (item[2], word)
    work.signals.append((item[1], word))


def work_use(work, item):
    """A use has the whole cycle of its module, which stands ahead: so this comes back to itself a few times at most."""
    _, name, module, ports = item
    items = work.modules[module]
    words = [work.word(expression) for _, expression in ports]
    inner = worked(work.modules, items, work.held[name], words)
    work.signals.extend([(f"{name}.{port}", word) for (port, _), word in zip(ports, words)])
    work.signals.extend([(f"{name}.{signal}", word) for signal, word in inner.signals])
    for part in of_kinds(items, ("output",)):
        work.names[(name, part[1])] = inner.names[part[1]]
    work.behind[name] = tuple(inner.behind.values())


def work_next(work, item):
    """A next leads its reg."""
    work.behind[item[1]] = work.word(item[2])


def work_write(work, item):
    """A write changes one word of its memory, if it is to."""
    _, name, when, address, written = item
    if work.word(when) == 1:
        row = list(work.behind[name])
        row[work.word(address)] = work.word(written)
        work.behind[name] = tuple(row)


ITEM_WORKS = {
    "input": work_input, "reg": work_reg, "memory": work_memory, "wire": work_signal, "output": work_signal,
    "use": work_use, "next": work_next, "write": work_write,
}


def worked(modules, items, state, words):
    """The work of a module's whole cycle."""
    work = Work(modules, items, state, words)
    for item in items:
        action = ITEM_WORKS[item[0]]
        action(work, item)
    return work


def cycle(design, module, state, inputs):
    """The pair (signals, next state) of one cycle of a module."""
    modules = items_by_module(design)
    items = items_called(modules, module)
    if not is_state_of(modules, items, state):
        raise BadRow(state)
    if not are_words(inputs, input_widths(items)):
        raise BadRow(inputs)
    work = worked(modules, items, state, inputs)
    return tuple(work.signals), tuple(work.behind.values())


def word_at(signals, name):
    """The word of the signal with a name."""
    for signal, word in signals:
        if isinstance(name, str) and signal == name:
            return word
    raise NoName(name)


def run(design, rows):
    """The pairs (state, signals) of the cycles of the top from its reset state, with these rows of inputs."""
    return run_from(design, reset_of(design, top_of(design)), rows)


def run_from(design, state, rows):
    """The pairs (state, signals) of the cycles of the top from a state, with these rows of inputs."""
    return tuple(states_on(design, state, rows)[0])


def state_behind(design, state, rows):
    """The state behind the last cycle."""
    return states_on(design, state, rows)[1]


def states_on(design, state, rows):
    """The pair (run, state behind it) of the top from a state."""
    modules = items_by_module(design)
    items = modules[top_of(design)]
    if not is_state_of(modules, items, state):
        raise BadRow(state)
    widths = input_widths(items)
    if not is_row(rows) or not all([are_words(row, widths) for row in rows]):
        raise BadRow(rows)
    told = []
    now = tuples_of(state)
    for row in rows:
        work = worked(modules, items, now, row)
        told.append((now, tuple(work.signals)))
        now = tuple(work.behind.values())
    return told, now
