"""Things made by a fixed rule: the same ones in each run, without a random source."""


class Rule:
    """A row of numbers, each made from the one ahead of it."""

    def __init__(self, number):
        self.number = number * 2654435761 % 2 ** 32

    def pick(self, many):
        """A number from 0 to many - 1."""
        self.number = (self.number * 1103515245 + 12345) % 2 ** 32
        return (self.number >> 12) % many

    def one_of(self, things):
        return things[self.pick(len(things))]


NAMES = ("a", "b", "x1", "long_name_12", "z_", "i", "iff", "thena", "q0_0", "when_", "inputs", "e")
WHOLES = (0, 1, 2, 7, 8, 63, 64, 65, 1000, 10 ** 19, 10 ** 20 - 1)

TWO_SIDED = ("or", "xor", "and", "equal", "below", "plus", "times")
ONE_SIDED = ("not", "minus")
SHIFTS = ("left", "right")
INNER = TWO_SIDED + ONE_SIDED + SHIFTS + ("slice", "if", "join", "read")


def leaf(rule):
    """A number, a name or a port."""
    kind = rule.pick(4)
    if kind == 0:
        return ("number", rule.one_of(WHOLES), rule.one_of(WHOLES))
    if kind == 1:
        return ("port", rule.one_of(NAMES), rule.one_of(NAMES))
    return ("name", rule.one_of(NAMES))


def expression(rule, size):
    """An expression of about this size, of any kinds, perhaps without a meaning."""
    if size <= 1:
        return leaf(rule)
    return around(rule, rule.one_of(INNER), size)


def around(rule, kind, size):
    """An expression of this kind, its parts made by the rule."""
    if kind in TWO_SIDED:
        left = 1 + rule.pick(size)
        return (kind, expression(rule, left), expression(rule, size - left))
    if kind in ONE_SIDED:
        return (kind, expression(rule, size - 1))
    if kind in SHIFTS:
        return (kind, expression(rule, size - 1), rule.one_of(WHOLES))
    if kind == "slice":
        high = rule.one_of(WHOLES)
        low = high if rule.pick(2) else rule.one_of(WHOLES)
        return ("slice", expression(rule, size - 1), high, low)
    if kind == "read":
        return ("read", rule.one_of(NAMES), expression(rule, size - 1))
    third = max(1, size // 3)
    if kind == "if":
        return ("if", expression(rule, third), expression(rule, third), expression(rule, third))
    return ("join", tuple(expression(rule, third) for _ in range(2 + rule.pick(3))))


def item(rule, kind, size):
    """An item of a kind, by [4] alone, perhaps without a meaning."""
    name = rule.one_of(NAMES)
    if kind == "input":
        return (kind, name, rule.one_of(WHOLES))
    if kind in ("reg", "memory"):
        return (kind, name, rule.one_of(WHOLES), rule.one_of(WHOLES))
    if kind in ("wire", "output"):
        return (kind, name, rule.one_of(WHOLES), expression(rule, size))
    if kind == "next":
        return (kind, name, expression(rule, size))
    if kind == "write":
        return (kind, name, expression(rule, size), expression(rule, size), expression(rule, size))
    ports = tuple((rule.one_of(NAMES), expression(rule, size)) for _ in range(rule.pick(4)))
    return (kind, name, rule.one_of(NAMES), ports)


KINDS = ("input", "reg", "memory", "wire", "output", "use", "next", "write")


def design(rule, size):
    """A design by [4] alone, perhaps without a meaning."""
    modules = []
    for _ in range(1 + rule.pick(3)):
        items = tuple(item(rule, rule.one_of(KINDS), size) for _ in range(rule.pick(9)))
        modules.append(("module", rule.one_of(NAMES), items))
    return tuple(modules)


def deep(kind, depth):
    """Expressions of one kind so deep within one another, by each place in which they can be."""
    one = ("name", "a")
    found = {
        "or": [lambda e: ("or", e, one), lambda e: ("or", one, e)],
        "if": [lambda e: ("if", e, one, one), lambda e: ("if", one, e, one), lambda e: ("if", one, one, e)],
        "join": [lambda e: ("join", (e, one)), lambda e: ("join", (one, e))],
        "read": [lambda e: ("read", "m", e)],
        "slice": [lambda e: ("slice", e, 0, 0)],
    }
    for name in TWO_SIDED:
        found[name] = [lambda e, n=name: (n, e, one), lambda e, n=name: (n, one, e)]
    for name in ONE_SIDED:
        found[name] = [lambda e, n=name: (n, e)]
    for name in SHIFTS:
        found[name] = [lambda e, n=name: (n, e, 1)]
    made = []
    for wrap in found[kind]:
        whole = one
        for _ in range(depth):
            whole = wrap(whole)
        made.append(whole)
    return made
