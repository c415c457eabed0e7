"""Designs that have a meaning, made by a fixed rule, and expressions with the widths that they must have."""

from tests.fixed import Rule


class Module:
    """A module that is being made: its items, and what its expressions may ask for."""

    def __init__(self, name):
        self.name = name
        self.items = []
        self.signals = []
        self.memories = []
        self.regs = []

    def ports(self, kind):
        return [(item[1], item[2]) for item in self.items if item[0] == kind]


def leaf_of(rule, module, width):
    """A number, a name or a port of a width."""
    known = [told for told, wide in module.signals if wide == width]
    if known and rule.pick(3):
        return rule.one_of(known)
    return ("number", width, rule.pick(2 ** min(width, 20)))


def of_width(rule, module, width, size):
    """An expression of a width, of about a size."""
    if size <= 1:
        return leaf_of(rule, module, width)
    rest = size // 2
    kind = rule.pick(9)
    if kind == 0 and width == 1:
        inner = 1 + rule.pick(64)
        sign = rule.one_of(("equal", "below"))
        return (sign, of_width(rule, module, inner, rest), of_width(rule, module, inner, rest))
    if kind <= 2:
        sign = rule.one_of(("and", "or", "xor", "plus", "times"))
        return (sign, of_width(rule, module, width, rest), of_width(rule, module, width, rest))
    if kind == 3:
        return (rule.one_of(("not", "minus")), of_width(rule, module, width, size - 1))
    if kind == 4:
        return (rule.one_of(("left", "right")), of_width(rule, module, width, size - 1), rule.pick(65))
    if kind == 5:
        low = rule.pick(65 - width)
        high = low + width - 1
        return ("slice", of_width(rule, module, high + 1 + rule.pick(64 - high), size - 1), high, low)
    if kind == 6:
        third = max(1, size // 3)
        arms = [of_width(rule, module, width, third) for _ in range(2)]
        return ("if", of_width(rule, module, 1, third), *arms)
    if kind == 7 and width > 1:
        first = 1 + rule.pick(width - 1)
        return ("join", (of_width(rule, module, first, rest), of_width(rule, module, width - first, rest)))
    for memory, wide, bits in module.memories:
        if wide == width:
            return ("read", memory, of_width(rule, module, bits, rest))
    return leaf_of(rule, module, width)


def put_item(rule, module, ahead, size, most_bits=6):
    """Puts an item of some kind behind those of a module."""
    kind = rule.pick(9)
    width = rule.one_of((1, 1, 2, 3, 8, 8, 32, 64))
    name = f"n{len(module.items)}"
    if kind == 1:
        module.items.append(("reg", name, width, rule.pick(2 ** min(width, 20))))
        module.regs.append((name, width))
    elif kind == 2:
        bits = 1 + rule.pick(most_bits)
        module.items.append(("memory", name, width, bits))
        module.memories.append((name, width, bits))
        return
    elif kind in (3, 4):
        module.items.append((("wire", "output")[kind - 3], name, width, of_width(rule, module, width, size)))
    elif kind == 5 and ahead:
        other = rule.one_of(ahead)
        ports = tuple((port, of_width(rule, module, wide, size)) for port, wide in other.ports("input"))
        module.items.append(("use", name, other.name, ports))
        module.signals.extend([(("port", name, port), wide) for port, wide in other.ports("output")])
        return
    elif kind == 6 and module.regs:
        reg, wide = module.regs.pop(rule.pick(len(module.regs)))
        module.items.append(("next", reg, of_width(rule, module, wide, size)))
        return
    elif kind == 7 and module.memories:
        memory, wide, bits = rule.one_of(module.memories)
        widths = (1, bits, wide)
        module.items.append(("write", memory, *[of_width(rule, module, one, size) for one in widths]))
        return
    else:
        module.items.append(("input", name, width))
    module.signals.append((("name", name), width))


def meant(number, size, most_modules=6, most_items=24, most_bits=6):
    """The modules, as they were made, of a design that has a meaning; the last one is put in order last."""
    rule = Rule(number)
    modules = []
    for place in range(1 + rule.pick(most_modules)):
        module = Module(f"m{place}")
        for _ in range(rule.pick(most_items + 1)):
            put_item(rule, module, modules, size, most_bits)
        modules.append(module)
    return modules


def design_of_modules(modules):
    return tuple(("module", module.name, tuple(module.items)) for module in modules)


def small_design(number, size=6):
    """A design of a few modules, small enough to be made flat and run."""
    return design_of_modules(meant(number, size, 4, 20, 3))
