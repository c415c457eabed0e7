"""Which designs have a meaning, and what their expressions are asked for."""

from everycycle.errors import TakenName, Unlike
from everycycle.parts import parts_of
from everycycle.scopes import WIDEST, Scope, expression_width, need_number, need_width, need_word, scope_of

MOST_BITS = 6


def check_own_name(scope, item):
    """No item ahead may have the name of an item."""
    if item[1] in scope.named:
        raise TakenName(item[1])


def check_width(scope, item):
    """What is asked of an input, and first of all else that has a width."""
    check_own_name(scope, item)
    need_number("width", item[2], 1, WIDEST)


def check_reg(scope, item):
    """What is asked of a reg."""
    check_width(scope, item)
    need_word("reset", item[3], item[2])


def check_memory(scope, item):
    """What is asked of a memory."""
    check_width(scope, item)
    need_number("bits", item[3], 1, MOST_BITS)


def check_signal(scope, item):
    """What is asked of a wire or an output."""
    check_width(scope, item)
    check_expression(scope, item[1], item[3], item[2])


def check_expression(scope, name, expression, wanted):
    """What is asked of an expression that must have a width."""
    need_width(name, wanted, expression_width(scope, name, expression))


def check_use(scope, item):
    """What is asked of a use."""
    _, name, module, ports = item
    check_own_name(scope, item)
    wanted = scope.module_called(module).inputs_here()
    if [port for port, _ in ports] != [part[1] for part in wanted]:
        raise Unlike("ports")
    for (_, expression), part in zip(ports, wanted):
        check_expression(scope, name, expression, part[2])


def check_next(scope, item):
    """What is asked of a next."""
    _, name, expression = item
    reg = scope.item_called(name, ("reg",))
    if name in scope.led:
        raise TakenName(name)
    check_expression(scope, name, expression, reg[2])


def check_write(scope, item):
    """What is asked of a write."""
    _, name, when, address, written = item
    memory = scope.item_called(name, ("memory",))
    check_expression(scope, name, when, 1)
    check_expression(scope, name, address, memory[3])
    check_expression(scope, name, written, memory[2])


ITEM_CHECKS = {
    "input": check_width, "reg": check_reg, "memory": check_memory, "wire": check_signal, "output": check_signal,
    "use": check_use, "next": check_next, "write": check_write,
}


def check(design):
    """None for a design that has a meaning; otherwise its first error is raised."""
    modules = {}
    for _, name, items in design:
        if name in modules:
            raise TakenName(name)
        scope = Scope(modules)
        for item in items:
            action = ITEM_CHECKS[item[0]]
            action(scope, item)
            scope.put_item(item)
        modules[name] = scope


def width_of(design, module, expression):
    """The width of an expression that could stand last in a module, told by its name, of a checked design."""
    return expression_width(scope_of(design, module), "", expression)


def names_in(expression):
    """The names that an expression asks for, as they come from the left; a port is a pair of names."""
    told = []
    waiting = [expression]
    while waiting:
        part = waiting.pop()
        if part[0] in ("name", "read"):
            told.append(part[1])
        elif part[0] == "port":
            told.append((part[1], part[2]))
        waiting.extend(parts_of(part)[::-1])
    return tuple(told)
