"""Expressions as rows of tokens, beside the tuples that they stand for: put together by [6], by a fixed rule."""

from tests.fixed import NAMES, WHOLES

# For each sign between two: its level, the loosest levels to its left and right, and what it makes.
SIGNS = {
    "|": (1, 1, 2, lambda a, b: ("or", a, b)),
    "^": (2, 2, 3, lambda a, b: ("xor", a, b)),
    "&": (3, 3, 4, lambda a, b: ("and", a, b)),
    "==": (4, 5, 5, lambda a, b: ("equal", a, b)),
    "!=": (4, 5, 5, lambda a, b: ("not", ("equal", a, b))),
    "<": (4, 5, 5, lambda a, b: ("below", a, b)),
    "<=": (4, 5, 5, lambda a, b: ("not", ("below", b, a))),
    "+": (5, 5, 6, lambda a, b: ("plus", a, b)),
    "-": (5, 5, 6, lambda a, b: ("plus", a, ("minus", b))),
    "*": (6, 6, 7, lambda a, b: ("times", a, b)),
}
AHEAD = {"~": "not", "-": "minus"}
SHIFTS = {"<<": "left", ">>": "right"}
FORMS = tuple(SIGNS) + ("~", "- ahead", "<<", ">>", "[k]", "[h:l]", "if", "{", "read", "number", "name", "port")

IF, SHIFTED, SIGNED, PART = 0, 7, 8, 9


def written(rule, size, level):
    """The pair (tokens, tuple) of an expression that may stand where the level is the loosest."""
    form = rule.one_of(FORMS) if size > 1 else rule.one_of(FORMS[-3:])
    own, tokens, told = of_form(rule, form, size)
    if own < level or rule.pick(8) == 0:
        return ["(", *tokens, ")"], told
    return tokens, told


def of_form(rule, form, size):
    """The triple (level, tokens, tuple) of an expression of a form."""
    rest = size // 2
    if form in SIGNS:
        level, left, right, make = SIGNS[form]
        one, first = written(rule, rest, left)
        other, second = written(rule, rest, right)
        return level, [*one, form, *other], make(first, second)
    if form in ("~", "- ahead"):
        tokens, told = written(rule, size - 1, SIGNED)
        return SIGNED, [form[0], *tokens], (AHEAD[form[0]], told)
    if form in SHIFTS:
        tokens, told = written(rule, size - 1, SHIFTED)
        places = rule.one_of(WHOLES)
        return SHIFTED, [*tokens, form, str(places)], (SHIFTS[form], told, places)
    if form in ("[k]", "[h:l]"):
        return sliced(rule, form, size)
    return closed_form(rule, form, rest)


def sliced(rule, form, size):
    tokens, told = written(rule, size - 1, PART)
    high, low = rule.one_of(WHOLES), rule.one_of(WHOLES)
    if form == "[k]":
        return PART, [*tokens, "[", str(high), "]"], ("slice", told, high, high)
    return PART, [*tokens, "[", str(high), ":", str(low), "]"], ("slice", told, high, low)


def closed_form(rule, form, rest):
    name = rule.one_of(NAMES)
    if form == "if":
        (a, one), (b, two), (c, three) = [written(rule, rest, IF) for _ in range(3)]
        return IF, ["if", *a, "then", *b, "else", *c], ("if", one, two, three)
    if form == "{":
        parts = [written(rule, rest, IF) for _ in range(2 + rule.pick(3))]
        tokens = [token for part, _ in parts for token in [",", *part]]
        return PART, ["{", *tokens[1:], "}"], ("join", tuple(told for _, told in parts))
    if form == "read":
        tokens, told = written(rule, rest, IF)
        return PART, [name, "[", *tokens, "]"], ("read", name, told)
    if form == "number":
        width, value = rule.one_of(WHOLES), rule.one_of(WHOLES)
        return PART, [f"{width}#{value}"], ("number", width, value)
    if form == "port":
        port = rule.one_of(NAMES)
        return PART, [name, ".", port], ("port", name, port)
    return PART, [name], ("name", name)


def is_wordlike(token):
    return token[0].isalnum()


def spaced(tokens, many):
    """The tokens as a line: many(k) tells how many spaces stand ahead of token k and behind the last one, but one at
    least stands between two words, names, wholes or numbers."""
    line = ""
    for k, token in enumerate(tokens):
        needed = k > 0 and is_wordlike(token) and is_wordlike(tokens[k - 1])
        line += " " * max(many(k), 1 if needed else 0) + token
    return line + " " * many(len(tokens))
