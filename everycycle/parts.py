"""The parts of expressions, for all who walk over them."""

LEAVES = ("number", "name", "port")
ONE_PART = ("not", "minus", "left", "right", "slice")


def parts_of(expression):
    """The expressions right within an expression, from the left."""
    kind = expression[0]
    if kind in LEAVES:
        return ()
    if kind in ONE_PART:
        return (expression[1],)
    if kind == "read":
        return (expression[2],)
    if kind == "join":
        return expression[1]
    return expression[1:]


def from_within(expression):
    """All expressions in an expression, itself last, each one behind its own parts, these from the left."""
    found = []
    waiting = [expression]
    while waiting:
        part = waiting.pop()
        found.append(part)
        waiting.extend(parts_of(part))
    return found[::-1]


def folded(expression, action, known):
    """What action(known, part, told) tells of an expression, told being the list of what it told of the parts."""
    told = []
    for part in from_within(expression):
        first = len(told) - len(parts_of(part))
        found = action(known, part, told[first:])
        del told[first:]
        told.append(found)
    return told[0]


def with_parts(expression, parts):
    """An expression like this one, with other parts; it is no read."""
    kind = expression[0]
    if kind in LEAVES:
        return expression
    if kind == "join":
        return ("join", tuple(parts))
    if kind in ONE_PART:
        return (kind, parts[0], *expression[2:])
    return (kind, *parts)
