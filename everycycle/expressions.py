"""Expressions read from a line.

There is no recursion, so that no depth is too great: an expression that is not yet at its end is a frame on a row of
frames, and in each frame the signs wait whose right side is not yet there.
"""

from everycycle.readers import is_digit

COMPARED = 4
SIGNED = 8
LOOSEST = 0

# The level, the greater the tighter, and the name of what each sign between two parts makes.
BETWEEN = {
    "|": (1, "or"), "^": (2, "xor"), "&": (3, "and"),
    "==": (4, "equal"), "!=": (4, "unequal"), "<": (4, "below"), "<=": (4, "not above"),
    "+": (5, "plus"), "-": (5, "less"), "*": (6, "times"),
}
AHEAD = {"~": "not", "-": "minus"}
SHIFTS = {"<<": "left", ">>": "right"}
WORD_BEHIND = {"if": "then", "then": "else"}


class Frame:
    """An expression that is being read: kind tells what stands ahead of it, parts what was read ahead of it there.

    The kinds are "line" for a whole expression, "(", "{", "[" with the memory of a read as its part, and "if", "then",
    "else". An item of waiting is a triple (level, name, left side, None for a sign that has none).
    """

    def __init__(self, kind, parts):
        self.kind = kind
        self.parts = parts
        self.waiting = []


def read_expression(reader):
    """Reads the expression that begins here, up to the first thing that can't go on with it."""
    frames = [Frame("line", [])]
    part = None
    while frames:
        if part is None:
            part = read_start(reader, frames)
        else:
            part = read_on(reader, frames, part)
    return part


def read_start(reader, frames):
    """Reads what a part may begin with: the part, or None if it needs more."""
    sign = reader.skip()
    if is_digit(sign):
        return reader.take_number()
    if sign in AHEAD:
        reader.take_sign(sign)
        frames[-1].waiting.append((SIGNED, AHEAD[sign], None))
        return None
    if sign in ("(", "{"):
        reader.take_sign(sign)
        frames.append(Frame(sign, []))
        return None
    return read_named(reader, frames)


def read_named(reader, frames):
    """Reads what begins with letters: an if, where one may stand, or a name, a port, the beginning of a read."""
    word = reader.take_letters()
    if word == "if" and not frames[-1].waiting:
        frames.append(Frame("if", []))
        return None
    name = reader.sure_name(word)
    sign = reader.skip()
    if sign == ".":
        reader.take_sign(".")
        return ("port", name, reader.take_name())
    if sign == "[" and not begins_slice(reader):
        reader.take_sign("[")
        frames.append(Frame("[", [name]))
        return None
    return ("name", name)


def begins_slice(reader):
    """Whether a whole stands behind the bracket here, and no # behind it."""
    start = reader.place
    reader.take_sign("[")
    found = is_digit(reader.skip())
    if found:
        reader.take_digits()
        found = reader.look() != "#"
    reader.place = start
    return found


def read_on(reader, frames, part):
    """Reads on behind a part: the part that has now come to its end, or None if another one must begin."""
    frame = frames[-1]
    while reader.skip() == "[":
        part = read_slice(reader, part)
    part = read_shifts(reader, folded(frame, part, SIGNED))
    sign = read_sign(reader, frame)
    if sign == "":
        return read_closing(reader, frames, folded(frame, part, LOOSEST))
    level, name = BETWEEN[sign]
    left = folded(frame, part, level)
    frame.waiting.append((level, name, left))
    return None


def read_slice(reader, part):
    """Reads a slice of a part."""
    reader.take_sign("[")
    high = reader.take_whole()
    low = high
    if reader.skip() == ":":
        reader.take_sign(":")
        low = reader.take_whole()
    reader.take_sign("]")
    return ("slice", part, high, low)


def read_shifts(reader, part):
    """Reads the shifts of a part, if any."""
    sign = reader.skip() + reader.look(1)
    while sign in SHIFTS:
        reader.place += 2
        part = (SHIFTS[sign], part, reader.take_whole())
        sign = reader.skip() + reader.look(1)
    return part


def read_sign(reader, frame):
    """Reads a sign between two parts, "" if none stands here."""
    one = reader.skip()
    if one not in ("<", ">", "=", "!"):
        if one not in BETWEEN:
            return ""
        reader.take_sign(one)
        return one
    compared = any([level == COMPARED for level, _, _ in frame.waiting])
    if compared and one in ("=", "!"):
        reader.wrong()
    reader.take_sign(one)
    two = one + "="
    if reader.look() == "=" and two in BETWEEN and not compared:
        reader.place += 1
        return two
    if compared or one != "<":
        # The first character could have begun a shift, or a comparison, but the second one is not theirs.
        reader.wrong()
    return one


def folded(frame, part, level):
    """The part with all waiting signs of this level or a tighter one, which are taken off."""
    while frame.waiting and frame.waiting[-1][0] >= level:
        _, name, left = frame.waiting.pop()
        part = made(name, left, part)
    return part


def made(name, left, right):
    """The expression that a sign makes; three of the signs stand for more than one tuple."""
    if left is None:
        return (name, right)
    if name == "unequal":
        return ("not", ("equal", left, right))
    if name == "not above":
        return ("not", ("below", right, left))
    if name == "less":
        return ("plus", left, ("minus", right))
    return (name, left, right)


def read_closing(reader, frames, value):
    """Reads what closes the last frame, value being its expression: as read_on."""
    frame = frames.pop()
    while frame.kind == "else":
        # Nothing stands behind an if but what closes the frame around it: no sign may go on with it.
        value = ("if", *frame.parts, value)
        frame = frames.pop()
    if frame.kind == "line":
        return value
    if frame.kind == "(":
        reader.take_sign(")")
        return value
    if frame.kind == "[":
        reader.take_sign("]")
        return ("read", frame.parts[0], value)
    if frame.kind == "{":
        return read_joined(reader, frames, [*frame.parts, value])
    word = reader.take_word((WORD_BEHIND[frame.kind],))
    frames.append(Frame(word, [*frame.parts, value]))
    return None


def read_joined(reader, frames, parts):
    """Reads what stands behind a part of a join: as read_on."""
    if reader.skip() == "," or len(parts) < 2:
        reader.take_sign(",")
        frames.append(Frame("{", parts))
        return None
    reader.take_sign("}")
    return ("join", tuple(parts))
