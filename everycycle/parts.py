"""The parts of expressions, for all who walk over them."""

LEAVES = ("number", "name", "port")
ONE_PART = ("not", "minus", "left", "right", "slice")


def parts_of(expression):
    """The expressions right within an expression, from the left."""
    kind = expression[0]
    if kind in LEAVES:
        return ()
    if kind in ONE_PART:
        return (expression[1],)
    if kind == "read":
        return (expression[2],)
    if kind == "join":
        return expression[1]
    return expression[1:]
