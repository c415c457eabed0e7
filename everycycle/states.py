"""The items that have states, and what their states are."""

from everycycle.errors import NoName
from everycycle.kinds import is_between, is_row, is_row_between

HELD = ("reg", "memory", "use")


def items_by_module(design):
    """The items of each module, by its name."""
    return {name: items for _, name, items in design}


def items_called(modules, module):
    """The items of the module with a name."""
    if module not in modules:
        raise NoName(module)
    return modules[module]


def of_kinds(items, kinds):
    """The items of some kinds, in order."""
    return [item for item in items if item[0] in kinds]


def greatest(width):
    """The greatest word of a width."""
    return (1 << width) - 1


def is_state_of(modules, items, value):
    """Whether any value is a state of a module with these items; lists may stand for tuples."""
    waiting = [(items, value)]
    while waiting:
        inner, row = waiting.pop()
        held = of_kinds(inner, HELD)
        if not is_row(row) or len(row) != len(held):
            return False
        for item, part in zip(held, row):
            if item[0] == "use":
                waiting.append((modules[item[2]], part))
            elif not is_own_state(item, part):
                return False
    return True


def is_own_state(item, value):
    """Whether any value is a state of a reg or a memory."""
    most = greatest(item[2])
    if item[0] == "reg":
        return is_between(value, 0, most)
    return is_row_between(value, 1 << item[3], 0, most)


def are_words(value, widths):
    """Whether any value is a row of words, one for each of the widths; a list may stand for a tuple."""
    if not is_row(value) or len(value) != len(widths):
        return False
    return all([is_between(word, 0, greatest(width)) for word, width in zip(value, widths)])


def input_widths(items):
    """The widths of a module's inputs, in order."""
    return [item[2] for item in of_kinds(items, ("input",))]


def top_of(design):
    """The name of the top of a design."""
    return design[-1][1]


def top_items(design):
    """The items of the top of a design, which may be without any module."""
    return design[-1][2] if design else ()


def output_called(design, name):
    """The output of the top with a name, which may be any value; None if there is none."""
    for item in of_kinds(top_items(design), ("output",)):
        if isinstance(name, str) and item[1] == name:
            return item
    return None


def is_wish(design, name):
    """Whether any value is the name of an output of one bit of the top."""
    item = output_called(design, name)
    return item is not None and item[2] == 1


def are_word_rows(value, widths):
    """Whether any value is a row of rows of words, one for each of the widths; lists may stand for tuples."""
    return is_row(value) and all([are_words(row, widths) for row in value])
