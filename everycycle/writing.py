"""Expressions and items told as text, with no more round brackets than are needed."""

# For each sign between two: how it is written, and the loosest levels that may stand bare on its left and right side.
BETWEEN = {
    "or": (" | ", 1, 2), "xor": (" ^ ", 2, 3), "and": (" & ", 3, 4),
    "equal": (" == ", 5, 5), "below": (" < ", 5, 5),
    "plus": (" + ", 5, 6), "times": (" * ", 6, 7),
}
AHEAD = {"not": "~", "minus": "-"}
SHIFTS = {"left": " << ", "right": " >> "}

# How tight each kind is; what is not here is a PART, the tightest of all.
LEVELS = {
    "if": 0, "or": 1, "xor": 2, "and": 3, "equal": 4, "below": 4, "plus": 5, "times": 6, "left": 7, "right": 7,
    "not": 8, "minus": 8,
}
WHOLE_LEVEL = 0
SHIFTED_LEVEL = 7
SIGNED_LEVEL = 8
PART_LEVEL = 9


def expression_text(expression):
    """The text of an expression that stands where all may stand bare."""
    told = []
    waiting = [(expression, WHOLE_LEVEL)]
    while waiting:
        piece = waiting.pop()
        if isinstance(piece, str):
            told.append(piece)
        else:
            part, level = piece
            waiting.extend(bracketed_pieces(part, level)[::-1])
    return "".join(told)


def bracketed_pieces(expression, level):
    """As pieces_of, in round brackets if the expression is looser than the level."""
    pieces = pieces_of(expression)
    if LEVELS.get(expression[0], PART_LEVEL) < level:
        return ["(", *pieces, ")"]
    return pieces


def pieces_of(expression):
    """What an expression is written as: a list of strings, and of pairs of a part and the loosest level for it."""
    kind = expression[0]
    if kind in BETWEEN:
        sign, left, right = BETWEEN[kind]
        return [(expression[1], left), sign, (expression[2], right)]
    if kind in AHEAD:
        return [AHEAD[kind], (expression[1], SIGNED_LEVEL)]
    if kind in SHIFTS:
        return [(expression[1], SHIFTED_LEVEL), f"{SHIFTS[kind]}{expression[2]}"]
    if kind == "slice":
        return [(expression[1], PART_LEVEL), slice_text(expression[2], expression[3])]
    if kind == "if":
        _, condition, one, other = expression
        return ["if ", (condition, WHOLE_LEVEL), " then ", (one, WHOLE_LEVEL), " else ", (other, WHOLE_LEVEL)]
    if kind == "join":
        return join_pieces(expression[1])
    if kind == "read":
        return [f"{expression[1]}[", (expression[2], WHOLE_LEVEL), "]"]
    return [leaf_text(expression)]


def slice_text(high, low):
    """The brackets of a slice."""
    if high == low:
        return f"[{high}]"
    return f"[{high}:{low}]"


def join_pieces(parts):
    """As pieces_of, for a join of these parts."""
    pieces = []
    for part in parts:
        pieces.append(", ")
        pieces.append((part, WHOLE_LEVEL))
    return ["{", *pieces[1:], "}"]


def leaf_text(expression):
    """The text of a number, a name or a port."""
    kind = expression[0]
    if kind == "number":
        return f"{expression[1]}#{expression[2]}"
    if kind == "port":
        return f"{expression[1]}.{expression[2]}"
    return expression[1]


def item_text(item):
    """The text of an item, without the spaces ahead of it and the line end."""
    kind = item[0]
    name = item[1]
    if kind == "input":
        return f"input {name}: {item[2]}"
    if kind == "reg":
        return f"reg {name}: {item[2]} = {item[3]}"
    if kind == "memory":
        return f"memory {name}: {item[2]} by {item[3]}"
    if kind == "use":
        return f"use {name}: {item[2]}({ports_text(item[3])})"
    if kind == "next":
        return f"next {name} = {expression_text(item[2])}"
    if kind == "write":
        return write_text(item)
    return f"{kind} {name}: {item[2]} = {expression_text(item[3])}"


def ports_text(ports):
    """What stands between the brackets of a use."""
    return ", ".join([f"{port} = {expression_text(part)}" for port, part in ports])


def write_text(item):
    """The text of a write, in which the condition stands last."""
    _, memory, when, address, written = item
    return f"write {memory}[{expression_text(address)}] = {expression_text(written)} when {expression_text(when)}"
