"""What the names in an expression stand for, and how wide expressions are."""

from everycycle.errors import BadNumber, BadWidth, NoName
from everycycle.kinds import is_between
from everycycle.parts import LEAVES, parts_of

WIDEST = 64
SIGNALS = ("input", "reg", "wire", "output")
OF_ONE_WIDTH = ("and", "or", "xor", "plus", "times", "equal", "below")


class Scope:
    """A module as far as it stands ahead of some place of it.

    modules are the scopes of the modules ahead of it, by their names; named its items that have a name of their own,
    and led the names of the regs that have a next.
    """

    def __init__(self, modules):
        self.modules = modules
        self.named = {}
        self.led = {}

    def put_item(self, item):
        """Puts an item behind those that are there."""
        kind = item[0]
        if kind == "next":
            self.led[item[1]] = True
        elif kind != "write":
            self.named[item[1]] = item

    def item_called(self, name, kinds):
        """The item of one of these kinds with this name."""
        item = self.named.get(name)
        if item is None or item[0] not in kinds:
            raise NoName(name)
        return item

    def module_called(self, name):
        """The scope of the module ahead with this name."""
        if name not in self.modules:
            raise NoName(name)
        return self.modules[name]

    def inputs_here(self):
        """The inputs, in order."""
        return [item for item in self.named.values() if item[0] == "input"]


def scope_of(design, module):
    """The scope of a whole module of a checked design, told by its name."""
    modules = {}
    for _, name, items in design:
        scope = Scope(modules)
        for item in items:
            scope.put_item(item)
        if name == module:
            return scope
        modules[name] = scope
    raise NoName(module)


def need_width(name, wanted, told):
    """Raises the error of an expression that has not the width that is wanted."""
    if told != wanted:
        raise BadWidth(name, wanted, told)


def need_number(what, number, least, most):
    """Raises the error of a number that is not from least to most."""
    if not is_between(number, least, most):
        raise BadNumber(what, number)


def need_word(what, number, width):
    """Raises the error of a number that is no word of a width, which is a right one."""
    need_number(what, number, 0, (1 << width) - 1)


def expression_width(scope, name, expression):
    """The width of an expression behind all that is in the scope, or its first error; name is for those of widths.

    The parts are walked without recursion. Each step is a word with the expression that it is for: "look" puts down
    the steps of its parts, "condition" looks at the width that was found last, "end" makes of the widths of the parts
    that of the whole.
    """
    widths = []
    waiting = [("look", expression)]
    while waiting:
        step, part = waiting.pop()
        if step == "look":
            look_ahead(scope, part)
            waiting.extend(steps_of(part)[::-1])
        elif step == "condition":
            need_width(name, 1, widths[-1])
        else:
            first = len(widths) - len(parts_of(part))
            found = whole_width(scope, name, part, widths[first:])
            del widths[first:]
            widths.append(found)
    return widths[0]


def look_ahead(scope, expression):
    """Raises the error that goes ahead of those of the parts: a read's memory is asked for first."""
    if expression[0] == "read":
        scope.item_called(expression[1], ("memory",))


def steps_of(expression):
    """The steps for the parts of an expression, and for itself behind them."""
    steps = [("look", part) for part in parts_of(expression)]
    if expression[0] == "if":
        steps.insert(1, ("condition", expression))
    return [*steps, ("end", expression)]


def whole_width(scope, name, expression, widths):
    """The width of an expression whose parts have these widths, or the error of what is asked of them together."""
    kind = expression[0]
    if kind in LEAVES:
        return leaf_width(scope, expression)
    if kind == "read":
        _, _, width, bits = scope.item_called(expression[1], ("memory",))
        need_width(name, bits, widths[0])
        return width
    if kind in OF_ONE_WIDTH:
        need_width(name, widths[0], widths[1])
        return 1 if kind in ("equal", "below") else widths[0]
    if kind == "if":
        need_width(name, widths[1], widths[2])
        return widths[1]
    if kind == "join":
        need_number("join", sum(widths), 1, WIDEST)
        return sum(widths)
    if kind == "slice":
        need_number("high", expression[2], 0, widths[0] - 1)
        need_number("low", expression[3], 0, expression[2])
        return expression[2] - expression[3] + 1
    if kind in ("left", "right"):
        need_number("shift", expression[2], 0, WIDEST)
    return widths[0]


def leaf_width(scope, expression):
    """The width of a number, a name or a port, or its error."""
    kind = expression[0]
    if kind == "number":
        _, width, value = expression
        need_number("width", width, 1, WIDEST)
        need_word("value", value, width)
        return width
    if kind == "name":
        return scope.item_called(expression[1], SIGNALS)[2]
    _, use, port = expression
    module = scope.module_called(scope.item_called(use, ("use",))[2])
    return module.item_called(port, ("output",))[2]
