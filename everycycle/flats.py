"""Designs as one module, without uses and memories."""

from everycycle.errors import BadRow
from everycycle.parts import folded, with_parts
from everycycle.states import HELD, are_words, is_state_of, items_by_module, of_kinds, top_of


def flat(design):
    """The design of one module with the top's name and its flat items."""
    flats = {}
    for _, name, items in design:
        flats[name] = flat_items(flats, items)
    return (("module", top_of(design), flats[top_of(design)]),)


def flat_items(flats, items):
    """The flat items of a module as a top, from those of the modules ahead, by name."""
    memories = {item[1]: item for item in of_kinds(items, ("memory",))}
    told = []
    for item in items:
        told.extend(flat_item(flats, memories, item))
    for name, memory in memories.items():
        writes = [item for item in of_kinds(items, ("write",)) if item[1] == name]
        if writes:
            told.extend(memory_nexts(memories, memory, writes))
    return tuple(told)


def flat_item(flats, memories, item):
    """The flat items of one item, but a memory's nexts."""
    kind, name = item[0], item[1]
    if kind == "memory":
        return [("reg", place_name(name, k), item[2], 0) for k in range(1 << item[3])]
    if kind in ("wire", "output"):
        return [(kind, name, item[2], turned(memories, item[3]))]
    if kind == "next":
        return [(kind, name, turned(memories, item[2]))]
    if kind == "write":
        return []
    if kind == "use":
        return flat_use(flats, memories, item)
    return [item]


def flat_use(flats, memories, item):
    """The flat items of a use: its inputs as wires, and the items of its module."""
    _, name, module, ports = item
    ahead = f"{name}."
    told = []
    for (port, expression), part in zip(ports, of_kinds(flats[module], ("input",))):
        told.append(("wire", ahead + port, part[2], turned(memories, expression)))
    for part in flats[module]:
        told.extend(inner_item(ahead, part))
    return told


def inner_item(ahead, item):
    """The items that a flat item becomes within a use whose name and a dot are ahead: one, or none."""
    kind, name = item[0], ahead + item[1]
    if kind == "input":
        return []
    if kind == "next":
        return [(kind, name, folded(item[2], part_within, ahead))]
    if kind == "reg":
        return [(kind, name, item[2], item[3])]
    return [("wire", name, item[2], folded(item[3], part_within, ahead))]


def part_within(ahead, part, told):
    """An expression of flat items within a use, whose parts are turned already."""
    if part[0] == "name":
        return ("name", ahead + part[1])
    return with_parts(part, told)


def turned(memories, expression):
    """An expression of a module turned for its flat items."""
    return folded(expression, turned_part, memories)


def turned_part(memories, part, told):
    """An expression whose parts are turned already."""
    if part[0] == "port":
        return ("name", f"{part[1]}.{part[2]}")
    if part[0] == "read":
        return place_choice(memories[part[1]], told[0])
    return with_parts(part, told)


def place_choice(memory, address):
    """The word of a memory at an address, by a test for each of its places but the last one."""
    _, name, _, bits = memory
    last = (1 << bits) - 1
    whole = ("name", place_name(name, last))
    for k in reversed(range(last)):
        whole = ("if", ("equal", address, ("number", bits, k)), ("name", place_name(name, k)), whole)
    return whole


def memory_nexts(memories, memory, writes):
    """The nexts of all places of a memory that has writes."""
    _, name, _, bits = memory
    acts = [[turned(memories, expression) for expression in item[2:]] for item in writes]
    told = []
    for k in range(1 << bits):
        whole = ("name", place_name(name, k))
        for when, address, written in acts:
            whole = ("if", ("and", when, ("equal", address, ("number", bits, k))), written, whole)
        told.append(("next", place_name(name, k), whole))
    return told


def place_name(memory, k):
    """The name of a memory's word at a place."""
    return f"{memory}.{k}"


def flat_state(design, state):
    """The row of all words in a state of the top, from the left."""
    modules = items_by_module(design)
    if not is_state_of(modules, modules[top_of(design)], state):
        raise BadRow(state)
    told = []
    waiting = [state]
    while waiting:
        part = waiting.pop()
        if isinstance(part, int):
            told.append(part)
        else:
            waiting.extend(part[::-1])
    return tuple(told)


def deep_state(design, row):
    """The state of the top with these words."""
    if not are_words(row, word_widths(design)):
        raise BadRow(row)
    modules = items_by_module(design)
    return state_with(modules, modules[top_of(design)], list(row[::-1]))


def word_widths(design):
    """The widths of all words in a state of the top, from the left."""
    widths = {}
    for _, name, items in design:
        found = []
        for item in of_kinds(items, HELD):
            if item[0] == "use":
                found.extend(widths[item[2]])
            else:
                found.extend([item[2]] * (1 << item[3] if item[0] == "memory" else 1))
        widths[name] = found
    return widths[top_of(design)]


def state_with(modules, items, words):
    """The state of a module with the words at the end of a list, the last one first; it takes them off.

    It comes back to itself for each use, as deep as modules stand in one another.
    """
    told = []
    for item in of_kinds(items, HELD):
        if item[0] == "reg":
            told.append(words.pop())
        elif item[0] == "memory":
            told.append(tuple([words.pop() for _ in range(1 << item[3])]))
        else:
            told.append(state_with(modules, modules[item[2]], words))
    return tuple(told)
