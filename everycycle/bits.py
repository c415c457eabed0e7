"""Words of literals of a graph, the lowest bit first, and the machines of flat designs."""

from everycycle.clauses import Machine
from everycycle.errors import BadWidth, NoName
from everycycle.graphs import Builder, choice_of, cone, or_of, xor_of
from everycycle.parts import folded


def number_word(width, number):
    """The word of so many constants with a number."""
    return number_bits(width, number)


def word_number(bits):
    """The number of a row of 0 and 1, the lowest one first."""
    return sum([bit << k for k, bit in enumerate(bits)])


def number_bits(width, number):
    """The row of so many bits with a number, the lowest one first."""
    return tuple([number >> k & 1 for k in range(width)])


def opposites(word):
    """The word of the opposite bits."""
    return tuple([literal ^ 1 for literal in word])


def full_sum(builder, a, b, c):
    """The pair (sum, carry) of three literals."""
    unlike = xor_of(builder, a, b)
    carry = or_of(builder, builder.and_of(a, b), builder.and_of(unlike, c))
    return xor_of(builder, unlike, c), carry


def summed(builder, one, other, carry):
    """The pair (word, last carry) of the sum of two words and a carry."""
    told = []
    for a, b in zip(one, other):
        bit, carry = full_sum(builder, a, b, carry)
        told.append(bit)
    return tuple(told), carry


def difference(builder, one, other):
    """The word of one less other, as far as it goes into the width."""
    return summed(builder, one, opposites(other), 1)[0]


def product(builder, one, other):
    """The word of the product, as far as it goes into the width."""
    width = len(one)
    told = number_word(width, 0)
    for k, bit in enumerate(other):
        part = [builder.and_of(bit, literal) for literal in one[:width - k]]
        told = (*told[:k], *summed(builder, told[k:], part, 0)[0])
    return told


def is_below(builder, one, other):
    """The literal that tells whether the number of one is below that of other."""
    told = 0
    for a, b in zip(one, other):
        told = choice_of(builder, xor_of(builder, a, b), b, told)
    return told


def is_equal(builder, one, other):
    """The literal that tells whether two words have one number."""
    told = 1
    for a, b in zip(one, other):
        told = builder.and_of(told, xor_of(builder, a, b) ^ 1)
    return told


def chosen(builder, c, one, other):
    """The word that is one where the literal c is 1, otherwise other."""
    return tuple([choice_of(builder, c, a, b) for a, b in zip(one, other)])


def not_bits(builder, part, words):
    """All bits turned."""
    return opposites(words[0])


def minus_bits(builder, part, words):
    """The number with the sign turned."""
    return difference(builder, number_word(len(words[0]), 0), words[0])


def and_bits(builder, part, words):
    """The bits that both have."""
    return tuple([builder.and_of(a, b) for a, b in zip(words[0], words[1])])


def or_bits(builder, part, words):
    """The bits that one of both has."""
    return tuple([or_of(builder, a, b) for a, b in zip(words[0], words[1])])


def xor_bits(builder, part, words):
    """The bits that just one of both has."""
    return tuple([xor_of(builder, a, b) for a, b in zip(words[0], words[1])])


def plus_bits(builder, part, words):
    """The sum."""
    return summed(builder, words[0], words[1], 0)[0]


def times_bits(builder, part, words):
    """The product."""
    return product(builder, words[0], words[1])


def equal_bits(builder, part, words):
    """Whether both are one number."""
    return (is_equal(builder, words[0], words[1]),)


def below_bits(builder, part, words):
    """Whether the first number is less than the second one."""
    return (is_below(builder, words[0], words[1]),)


def if_bits(builder, part, words):
    """The arm that the condition takes."""
    return chosen(builder, words[0][0], words[1], words[2])


def left_bits(builder, part, words):
    """The bits shifted to higher places."""
    return ((0,) * part[2] + words[0])[:len(words[0])]


def right_bits(builder, part, words):
    """The bits shifted to lower places."""
    return (words[0] + (0,) * part[2])[part[2]:]


def slice_bits(builder, part, words):
    """The bits from one place to another one."""
    _, _, high, low = part
    return words[0][low:high + 1]


def join_bits(builder, part, words):
    """The bits one behind another, the first word's highest."""
    return tuple([literal for word in words[::-1] for literal in word])


INNER_BITS = {
    "not": not_bits, "minus": minus_bits, "and": and_bits, "or": or_bits, "xor": xor_bits, "plus": plus_bits,
    "times": times_bits, "equal": equal_bits, "below": below_bits, "if": if_bits, "left": left_bits,
    "right": right_bits, "slice": slice_bits, "join": join_bits,
}


def part_bits(place, part, words):
    """The word of an expression whose parts have these words; place is the pair (builder, words of the names)."""
    builder, known = place
    if part[0] == "number":
        return number_word(part[1], part[2])
    if part[0] == "name":
        return tuple(known[part[1]])
    action = INNER_BITS[part[0]]
    return action(builder, part, words)


def expression_word(builder, expression, known):
    """The word of an expression without ports and reads, from the words of its names."""
    return folded(expression, part_bits, (builder, known))


def width_called(items, wish):
    """The width of the input, reg, wire or output with a name, which may be any value."""
    for item in items:
        if item[0] != "next" and isinstance(wish, str) and item[1] == wish:
            return item[2]
    raise NoName(wish)


def bits_ahead(items, kind):
    """The items of a kind, with how many bits stand ahead of each, and at the end how many there are."""
    told, ahead = [], 0
    for item in items:
        if item[0] == kind:
            told.append((item, ahead))
            ahead += item[2]
    return told, ahead


def leaf_word(first, width):
    """The word of so many leaves from one on."""
    return tuple([2 * n for n in range(first, first + width)])


def machine_of(design, wish):
    """The machine of a flat design with the bit of a name as its wish."""
    _, _, items = design[0]
    width = width_called(items, wish)
    if width != 1:
        raise BadWidth(wish, 1, width)
    inputs, many = bits_ahead(items, "input")
    regs, registers = bits_ahead(items, "reg")
    known = {item[1]: leaf_word(1 + ahead, item[2]) for item, ahead in inputs}
    known.update({item[1]: leaf_word(1 + many + ahead, item[2]) for item, ahead in regs})
    behind = {item[1]: known[item[1]] for item, _ in regs}
    builder = Builder(many + registers)
    for item in items:
        if item[0] in ("wire", "output"):
            known[item[1]] = expression_word(builder, item[3], known)
        elif item[0] == "next":
            behind[item[1]] = expression_word(builder, item[2], known)
    nexts = [literal for word in list(behind.values()) for literal in word]
    graph, literals = cone(builder.graph(), (*nexts, known[wish][0]))
    resets = [bit for item, _ in regs for bit in number_bits(item[2], item[3])]
    return Machine(graph, many, resets, literals[:-1], literals[-1])
