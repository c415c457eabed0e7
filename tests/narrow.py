"""Expressions without ports and reads, and flat designs, of short words, made by a fixed rule."""

KINDS = ("and", "or", "xor", "plus", "times", "not", "minus", "left", "right", "slice", "join", "if", "equal", "below")


def narrow(rule, names, width, size):
    """An expression of a width over names, pairs (name, width), of about a size."""
    if size <= 1:
        fitting = [name for name, wide in names if wide == width]
        if fitting and rule.pick(5):
            return ("name", rule.one_of(fitting))
        return ("number", width, rule.pick(2 ** width))
    kind = rule.one_of(KINDS)
    rest = size // 2
    if kind in ("equal", "below"):
        wide = 1 + rule.pick(5)
        whole = (kind, narrow(rule, names, wide, rest), narrow(rule, names, wide, rest))
        return whole if width == 1 else ("if", whole, narrow(rule, names, width, 1), narrow(rule, names, width, 1))
    if kind in ("not", "minus"):
        return (kind, narrow(rule, names, width, size - 1))
    if kind in ("left", "right"):
        return (kind, narrow(rule, names, width, size - 1), rule.one_of((0, 1, 2, width, width + 1, 64)))
    if kind == "slice":
        low = rule.pick(3)
        high = low + width - 1
        return (kind, narrow(rule, names, high + 1 + rule.pick(2), size - 1), high, low)
    if kind == "join":
        if width == 1:
            return narrow(rule, names, width, size - 1)
        first = 1 + rule.pick(width - 1)
        return (kind, (narrow(rule, names, first, rest), narrow(rule, names, width - first, rest)))
    if kind == "if":
        third = max(1, size // 3)
        return (kind, narrow(rule, names, 1, third), narrow(rule, names, width, third), narrow(rule, names, width, third))
    return (kind, narrow(rule, names, width, rest), narrow(rule, names, width, rest))


def flat_design(rule, most_inputs=3, most_regs=4, size=6):
    """A flat design with at most so many inputs and regs, of one to three bits each."""
    items, names = [], []
    for n in range(rule.pick(most_inputs + 1)):
        items.append(("input", f"i{n}", 1 + rule.pick(2)))
        names.append(items[-1][1:3])
    regs = []
    for n in range(rule.pick(most_regs + 1)):
        width = 1 + rule.pick(3)
        place = rule.pick(len(items) + 1)
        items.insert(place, ("reg", f"u.r{n}", width, rule.pick(2 ** width)))
        regs.append((f"u.r{n}", width))
    names.extend(regs)
    for n in range(1 + rule.pick(5)):
        width = rule.one_of((1, 1, 2, 3))
        kind = rule.one_of(("wire", "output"))
        items.append((kind, f"w{n}", width, narrow(rule, names, width, size)))
        names.append((f"w{n}", width))
        if regs and rule.pick(2):
            name, wide = regs.pop(rule.pick(len(regs)))
            items.append(("next", name, narrow(rule, names, wide, size)))
    for name, wide in regs:
        if rule.pick(3):
            items.append(("next", name, narrow(rule, names, wide, size)))
    items.append(("output", "last", 1, narrow(rule, names, 1, size)))
    return (("module", "m", tuple(items)),)
