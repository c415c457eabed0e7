"""[21], [22], [23]: words of literals."""

import unittest
from itertools import product as pairs_of

from everycycle.bits import (
    chosen, difference, expression_word, full_sum, is_below, is_equal, number_bits, number_word, product, summed,
    word_number,
)
from everycycle.cycles import word_of
from everycycle.graphs import Builder, node_values
from tests.fixed import ONE_SIDED, SHIFTS, TWO_SIDED, Rule, deep
from tests.narrow import narrow
from tests.nets import all_bits, worth

MOST = 2 ** 64 - 1


def number(found, word):
    """The number of a word by the values of all nodes."""
    return sum(2 ** k * worth(found, literal) for k, literal in enumerate(word))


class Words(unittest.TestCase):
    def hold(self, builder, standing, told, wanted, all_of=None):
        """For all bits, or those told: wanted tells of the values what the told words must have as numbers."""
        graph = builder.graph()
        self.assertEqual(graph.gates[:len(standing)], standing)
        for word in told:
            self.assertIs(word.__class__, tuple)
        for bits in all_of or all_bits(graph.leaves):
            found = node_values(graph, bits)
            self.assertEqual([number(found, word) for word in told], wanted(found), bits)


class Numbers(unittest.TestCase):
    def test_words_of_constants(self):
        for width, value, word in ((1, 0, (0,)), (1, 1, (1,)), (4, 0, (0,) * 4), (4, 15, (1,) * 4), (4, 6, (0, 1, 1, 0)),
                                   (3, 1, (1, 0, 0)), (64, MOST, (1,) * 64), (64, 0, (0,) * 64), (0, 0, ())):
            for call in (number_word, number_bits):
                told = call(width, value)
                self.assertEqual(told, word)
                self.assertTrue(told.__class__ is tuple and all(bit.__class__ is int for bit in told))
            self.assertEqual(word_number(word), value)
            self.assertEqual(word_number(list(word)), value)
        for width in range(1, 7):
            for value in range(2 ** width):
                self.assertEqual(word_number(number_bits(width, value)), value)
                self.assertEqual(number_word(width, value), number_bits(width, value))


class Sums(Words):
    def test_full_sum_of_all_literals(self):
        for a, b, c in pairs_of(range(8), repeat=3):
            builder = Builder(3)
            builder.and_of(2, 5)
            standing = builder.graph().gates
            told = full_sum(builder, a, b, c)
            self.assertEqual((told.__class__, len(told)), (tuple, 2))
            self.hold(builder, standing, [told], lambda found: [worth(found, a) + worth(found, b) + worth(found, c)])

    def words(self, rule, leaves, width):
        """Words of a width of which leaves, opposites and constants are bits, some of them alike."""
        told = [tuple(rule.pick(2 * leaves + 2) for _ in range(width)) for _ in range(2)]
        if rule.pick(6) == 0:
            told[1] = told[0]
        if rule.pick(6) == 0:
            told[1] = tuple(literal ^ 1 for literal in told[0])
        if rule.pick(6) == 0:
            told[rule.pick(2)] = number_word(width, rule.pick(2 ** width))
        return told

    def all_of_words(self, leaves, one, other, carries):
        """All functions of two words must tell what the numbers ask for."""
        width = len(one)
        top = 2 ** width
        for carry in carries:
            builder = Builder(leaves)
            last = builder.and_of(2, 2 * leaves)
            standing = builder.graph().gates
            word, out = summed(builder, one, other, carry)
            self.assertEqual(len(word), width)
            self.hold(builder, standing, [(*word, out)], lambda found: [
                number(found, one) + number(found, other) + worth(found, carry)])
        builder = Builder(leaves)
        c = builder.and_of(2, 2 * leaves) if leaves else 1
        standing = builder.graph().gates
        told = [difference(builder, one, other), product(builder, one, other), (is_below(builder, one, other),),
                (is_equal(builder, one, other),), chosen(builder, c, one, other), chosen(builder, c ^ 1, one, other)]
        self.assertEqual([len(word) for word in told], [width, width, 1, 1, width, width])

        def wanted(found):
            a, b = number(found, one), number(found, other)
            both = (a, b) if worth(found, c) == 1 else (b, a)
            return [(a - b) % top, a * b % top, int(a < b), int(a == b), *both]

        self.hold(builder, standing, told, wanted)

    def test_all_words_of_short_widths(self):
        for width in (1, 2, 3, 4):
            one = tuple(2 * n for n in range(1, width + 1))
            other = tuple(2 * n for n in range(width + 1, 2 * width + 1))
            self.all_of_words(2 * width, one, other, (0, 1))
            self.all_of_words(2 * width, other[::-1], one, (0, 1))
            self.all_of_words(2 * width + 1, one, other, (4 * width + 2,))
            self.all_of_words(width, one, one, (0, 1, 2, 3))
            self.all_of_words(width, one, tuple(literal ^ 1 for literal in one), (0, 1, 2, 3))
            for value in range(2 ** width):
                self.all_of_words(width, one, number_word(width, value), (0, 1))
                self.all_of_words(width, number_word(width, value), one, (0, 1))

    def test_all_pairs_of_constants(self):
        for width in (1, 2, 3):
            for a, b in pairs_of(range(2 ** width), repeat=2):
                for carry in (0, 1):
                    builder = Builder(0)
                    one, other = number_word(width, a), number_word(width, b)
                    word, out = summed(builder, one, other, carry)
                    self.assertEqual(word_number((*word, out)), a + b + carry)
                    self.assertEqual(difference(builder, one, other), number_word(width, (a - b) % 2 ** width))
                    self.assertEqual(product(builder, one, other), number_word(width, a * b % 2 ** width))
                    self.assertEqual((is_below(builder, one, other), is_equal(builder, one, other)), (int(a < b), int(a == b)))
                    self.assertEqual(chosen(builder, carry, one, other), one if carry == 1 else other)
                    self.assertEqual(builder.graph().gates, ())

    def test_literals_at_several_places(self):
        for k in range(60):
            rule = Rule(k + 900)
            leaves = 1 + rule.pick(5)
            one, other = self.words(rule, leaves, 1 + rule.pick(7))
            self.all_of_words(leaves, one, other, (rule.pick(2 * leaves + 2),))

    def test_long_words_of_drawn_bits(self):
        rule = Rule(5)
        for width, products in ((8, True), (16, True), (17, True), (33, False), (64, False)):
            builder = Builder(2 * width)
            one, other = (tuple(range(2, 2 * width + 2, 2)), tuple(range(2 * width + 2, 4 * width + 2, 2)))
            word, out = summed(builder, one, other, 1)
            told = [(*word, out), difference(builder, one, other), (is_below(builder, one, other),),
                    (is_equal(builder, one, other),), chosen(builder, 2, one, other)]
            if products:
                told.append(product(builder, one, other))
            top = 2 ** width

            def wanted(found):
                a, b = number(found, one), number(found, other)
                right = [a + b + 1, (a - b) % top, int(a < b), int(a == b), a if a % 2 else b]
                return [*right, a * b % top] if products else right

            rows = []
            for _ in range(12):
                half = tuple(rule.pick(2) for _ in range(width))
                rows.extend(((*half, *half), (*half, *(rule.pick(2) for _ in half)), (*half, 1 - half[0], *half[1:])))
            rows.extend(((0,) * 2 * width, (1,) * 2 * width, (*(1,) * width, *(0,) * width)))
            self.hold(builder, (), told, wanted, rows)

    def test_words_as_lists(self):
        builder = Builder(4)
        self.assertEqual(summed(builder, [2, 4], [6, 8], 0), summed(builder, (2, 4), (6, 8), 0))
        self.assertEqual(product(builder, [2, 4], [6, 8]), product(builder, (2, 4), (6, 8)))
        self.assertEqual(difference(builder, [2, 4], [6, 8]), difference(builder, (2, 4), (6, 8)))
        self.assertEqual(chosen(builder, 2, [2, 4], [6, 8]), chosen(builder, 2, (2, 4), (6, 8)))


class Expressions(unittest.TestCase):
    def hold(self, expression, names, rows=None):
        """The word of an expression over names, pairs (name, width), each bit of which is a leaf."""
        known, place = {}, 1
        for name, width in names:
            known[name] = tuple(2 * n for n in range(place, place + width))
            place += width
        builder = Builder(place - 1)
        word = expression_word(builder, expression, known)
        self.assertIs(word.__class__, tuple)
        self.assertEqual(expression_word(builder, expression, {name: list(word) for name, word in known.items()}), word)
        graph = builder.graph()
        for bits in rows or all_bits(place - 1):
            found = node_values(graph, bits)
            words = {name: (len(part), number(found, part)) for name, part in known.items()}
            self.assertEqual((len(word), number(found, word)), word_of(expression, words), expression)

    def test_each_kind(self):
        a, b, c = ("name", "a"), ("name", "b"), ("name", "c")
        for width in (1, 2, 3):
            names = (("a", width), ("b", width), ("c", 1))
            for kind in TWO_SIDED:
                self.hold((kind, a, b), names)
                self.hold((kind, a, a), names)
            for kind in ONE_SIDED:
                self.hold((kind, a), names)
            for kind in SHIFTS:
                for k in (0, 1, width - 1, width, width + 1, 63, 64):
                    self.hold((kind, a, k), names)
            for high in range(width):
                for low in range(high + 1):
                    self.hold(("slice", a, high, low), names)
            self.hold(("if", c, a, b), names)
            self.hold(("join", (a, b)), names)
            self.hold(("join", (a, c, b, c)), names)
            for value in range(2 ** width):
                self.hold(("number", width, value), names)
                self.hold(("plus", a, ("number", width, value)), names)

    def test_narrow_ones(self):
        names = (("a", 1), ("b", 2), ("c", 3), ("d", 1))
        for k in range(400):
            rule = Rule(k + 1200)
            self.hold(narrow(rule, names, 1 + rule.pick(5), 2 + rule.pick(20)), names)

    def test_deep_ones(self):
        names = (("a", 2),)
        for kind in TWO_SIDED + ONE_SIDED + SHIFTS:
            for expression in deep(kind, 60):
                self.hold(expression, names if kind not in ("equal", "below") else (("a", 1),))
        for kind in ("if", "slice"):
            for expression in deep(kind, 60):
                self.hold(expression, (("a", 1),))
        for expression in deep("join", 60):
            self.hold(expression, (("a", 1),))

    def test_wide_ones(self):
        a, b = ("name", "a"), ("name", "b")
        rule = Rule(8)
        rows = [tuple(rule.pick(2) for _ in range(128)) for _ in range(6)] + [(0,) * 128, (1,) * 128]
        for kind in ("and", "or", "xor", "plus", "equal", "below"):
            self.hold((kind, a, b), (("a", 64), ("b", 64)), rows)
        for expression in (("minus", a), ("not", b), ("left", a, 63), ("right", b, 33), ("slice", a, 63, 1),
                           ("join", (("slice", a, 31, 0), ("slice", b, 63, 32)))):
            self.hold(expression, (("a", 64), ("b", 64)), rows)
        rows = [tuple(rule.pick(2) for _ in range(32)) for _ in range(30)] + [(0,) * 32, (1,) * 32]
        self.hold(("times", a, b), (("a", 16), ("b", 16)), rows)

    def test_no_gate_that_stood_is_changed(self):
        builder = Builder(4)
        builder.and_of(2, 5)
        standing = builder.graph().gates
        expression_word(builder, ("times", ("name", "a"), ("plus", ("name", "a"), ("name", "b"))), {"a": (2, 4), "b": (6, 8)})
        self.assertEqual(builder.graph().gates[:1], standing)


if __name__ == "__main__":
    unittest.main()
