"""The word of an expression from those of its parts. All are pairs (width, word)."""


def within(width, number):
    """What is left of a number by 2 ** width, in a pair with the width."""
    return width, number & ((1 << width) - 1)


def not_word(part, words):
    """All bits turned."""
    width, word = words[0]
    return width, (1 << width) - 1 - word


def minus_word(part, words):
    """The number with the sign turned."""
    return within(words[0][0], -words[0][1])


def and_word(part, words):
    """The bits that both have."""
    return words[0][0], words[0][1] & words[1][1]


def or_word(part, words):
    """The bits that one of both has."""
    return words[0][0], words[0][1] | words[1][1]


def xor_word(part, words):
    """The bits that just one of both has."""
    return words[0][0], words[0][1] ^ words[1][1]


def plus_word(part, words):
    """The sum."""
    return within(words[0][0], words[0][1] + words[1][1])


def times_word(part, words):
    """The product."""
    return within(words[0][0], words[0][1] * words[1][1])


def equal_word(part, words):
    """Whether both are one number."""
    return 1, 1 if words[0][1] == words[1][1] else 0


def below_word(part, words):
    """Whether the first number is less than the second one."""
    return 1, 1 if words[0][1] < words[1][1] else 0


def if_word(part, words):
    """The arm that the condition takes."""
    return words[1] if words[0][1] == 1 else words[2]


def left_word(part, words):
    """The bits shifted to higher places."""
    return within(words[0][0], words[0][1] << part[2])


def right_word(part, words):
    """The bits shifted to lower places."""
    return words[0][0], words[0][1] >> part[2]


def slice_word(part, words):
    """The bits from one place to another one."""
    _, _, high, low = part
    return within(high - low + 1, words[0][1] >> low)


def join_word(part, words):
    """The bits one behind another, the first word's highest."""
    whole, number = 0, 0
    for width, word in words:
        whole += width
        number = number << width | word
    return whole, number


INNER_WORDS = {
    "not": not_word, "minus": minus_word, "and": and_word, "or": or_word, "xor": xor_word, "plus": plus_word,
    "times": times_word, "equal": equal_word, "below": below_word, "if": if_word, "left": left_word,
    "right": right_word, "slice": slice_word, "join": join_word,
}


def part_word(names, part, words):
    """The word of an expression whose parts have these words, from those of what it names."""
    kind = part[0]
    if kind == "number":
        return part[1], part[2]
    if kind == "name":
        width, word = names[part[1]]
        return width, word
    if kind == "port":
        width, word = names[(part[1], part[2])]
        return width, word
    if kind == "read":
        width, row = names[part[1]]
        return width, row[words[0][1]]
    action = INNER_WORDS[kind]
    return action(part, words)
