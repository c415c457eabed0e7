"""[12]: the words of expressions."""

import unittest

from everycycle.cycles import word_of
from everycycle.designs import width_of
from tests.fixed import ONE_SIDED, SHIFTS, TWO_SIDED, Rule, deep
from tests.meaning import meant, of_width
from tests.plainly import bits, number_of, some_word, text_of

A, B, C = ("name", "a"), ("name", "b"), ("name", "c")
WIDTHS = (1, 2, 3, 7, 8, 31, 32, 33, 63, 64)


def edges(width):
    """Words of a width: the least and the greatest ones and some between."""
    top = 2 ** width
    return [k for k in sorted({0, 1, top - 1, top - 2, top // 2, top // 2 - 1, top // 3}) if 0 <= k < top]


class ByHand(unittest.TestCase):
    def tell(self, expression, **names):
        told = word_of(expression, names)
        self.assertIs(told.__class__, tuple)
        self.assertTrue(all(part.__class__ is int for part in told), told)
        return told

    def test_numbers_and_names(self):
        self.assertEqual(self.tell(("number", 5, 31)), (5, 31))
        self.assertEqual(self.tell(("number", 64, 2 ** 64 - 1)), (64, 2 ** 64 - 1))
        self.assertEqual(self.tell(A, a=(3, 6)), (3, 6))
        self.assertEqual(self.tell(A, a=[3, 6]), (3, 6))
        self.assertEqual(word_of(("port", "u", "a"), {("u", "a"): (9, 300), "a": (1, 0), "u": (2, 2)}), (9, 300))
        self.assertEqual(word_of(A, {("u", "a"): (9, 300), "a": (1, 0)}), (1, 0))

    def test_reads_at_each_place(self):
        for row in ((5, 6, 7, 8), [5, 6, 7, 8]):
            for k in range(4):
                self.assertEqual(self.tell(("read", "m", ("number", 2, k)), m=(4, row)), (4, 5 + k))
        self.assertEqual(self.tell(("read", "m", ("read", "m", A)), m=(2, (3, 0, 1, 2)), a=(2, 1)), (2, 3))
        whole = tuple(range(100, 164))
        self.assertEqual(self.tell(("read", "m", A), m=(8, whole), a=(6, 63)), (8, 163))

    def test_not_and_minus(self):
        self.assertEqual(self.tell(("not", A), a=(3, 5)), (3, 2))
        self.assertEqual(self.tell(("minus", A), a=(3, 5)), (3, 3))
        self.assertEqual(self.tell(("minus", A), a=(3, 0)), (3, 0))
        self.assertEqual(self.tell(("minus", A), a=(64, 1)), (64, 2 ** 64 - 1))
        self.assertEqual(self.tell(("not", A), a=(64, 0)), (64, 2 ** 64 - 1))

    def test_sums_and_products_beyond_the_width(self):
        self.assertEqual(self.tell(("plus", A, B), a=(3, 5), b=(3, 6)), (3, 3))
        self.assertEqual(self.tell(("times", A, B), a=(3, 5), b=(3, 6)), (3, 6))
        most = 2 ** 64 - 1
        self.assertEqual(self.tell(("times", A, B), a=(64, most), b=(64, most)), (64, 1))
        self.assertEqual(self.tell(("plus", A, B), a=(64, most), b=(64, most)), (64, most - 1))

    def test_comparisons(self):
        for a in range(4):
            for b in range(4):
                self.assertEqual(self.tell(("equal", A, B), a=(2, a), b=(2, b)), (1, int(a == b)))
                self.assertEqual(self.tell(("below", A, B), a=(2, a), b=(2, b)), (1, int(a < b)))

    def test_shifts(self):
        for k, left, right in ((0, 11, 11), (1, 6, 5), (3, 8, 1), (4, 0, 0), (5, 0, 0), (64, 0, 0)):
            self.assertEqual(self.tell(("left", A, k), a=(4, 11)), (4, left))
            self.assertEqual(self.tell(("right", A, k), a=(4, 11)), (4, right))
        most = 2 ** 64 - 1
        self.assertEqual(self.tell(("left", A, 63), a=(64, most)), (64, 2 ** 63))
        self.assertEqual(self.tell(("right", A, 63), a=(64, most)), (64, 1))
        self.assertEqual(self.tell(("left", A, 64), a=(64, most)), (64, 0))
        self.assertEqual(self.tell(("right", A, 64), a=(64, most)), (64, 0))

    def test_slices(self):
        self.assertEqual(self.tell(("slice", A, 0, 0), a=(4, 5)), (1, 1))
        self.assertEqual(self.tell(("slice", A, 3, 3), a=(4, 5)), (1, 0))
        self.assertEqual(self.tell(("slice", A, 3, 0), a=(4, 13)), (4, 13))
        self.assertEqual(self.tell(("slice", A, 3, 2), a=(4, 13)), (2, 3))
        self.assertEqual(self.tell(("slice", A, 2, 1), a=(4, 13)), (2, 2))
        self.assertEqual(self.tell(("slice", A, 63, 63), a=(64, 2 ** 63)), (1, 1))

    def test_choices(self):
        choice = ("if", C, A, B)
        self.assertEqual(self.tell(choice, a=(4, 5), b=(4, 6), c=(1, 1)), (4, 5))
        self.assertEqual(self.tell(choice, a=(4, 5), b=(4, 6), c=(1, 0)), (4, 6))

    def test_joins(self):
        self.assertEqual(self.tell(("join", (A, B)), a=(2, 1), b=(3, 6)), (5, 14))
        ones = tuple(("number", 1, int(k % 3 == 0)) for k in range(64))
        self.assertEqual(self.tell(("join", ones)), (64, int("".join("1" if k % 3 == 0 else "0" for k in range(64)), 2)))
        self.assertEqual(self.tell(("join", (A, ("join", (B, C)))), a=(1, 1), b=(1, 0), c=(1, 1)), (3, 5))


class Against(unittest.TestCase):
    def hold(self, expression, names):
        def ask(kind, name, port=None):
            width, word = names[(name, port) if kind == "port" else name]
            return [bits(width, part) for part in word] if kind == "read" else bits(width, word)

        text = text_of(expression, ask)
        self.assertEqual(word_of(expression, names), (len(text), number_of(text)), expression)

    def test_all_words_of_short_widths(self):
        for width in (1, 2, 3):
            for a in range(2 ** width):
                for kind in ONE_SIDED:
                    self.hold((kind, A), {"a": (width, a)})
                for k in (0, 1, 2, 3, 4, 63, 64):
                    for kind in SHIFTS:
                        self.hold((kind, A, k), {"a": (width, a)})
                for high in range(width):
                    for low in range(high + 1):
                        self.hold(("slice", A, high, low), {"a": (width, a)})
                for b in range(2 ** width):
                    for kind in TWO_SIDED:
                        self.hold((kind, A, B), {"a": (width, a), "b": (width, b)})

    def test_edges_of_all_widths(self):
        for width in WIDTHS:
            for a in edges(width):
                for kind in ONE_SIDED:
                    self.hold((kind, A), {"a": (width, a)})
                for k in {0, 1, width - 1, width, width + 1, 64} - {65}:
                    for kind in SHIFTS:
                        self.hold((kind, A, k), {"a": (width, a)})
                for b in edges(width):
                    for kind in TWO_SIDED:
                        self.hold((kind, A, B), {"a": (width, a), "b": (width, b)})

    def test_expressions_of_designs(self):
        many = 0
        for number in range(60):
            rule = Rule(number + 500)
            modules = meant(number, 6)
            module = modules[-1]
            design = tuple(("module", part.name, tuple(part.items)) for part in modules)
            names = {}
            for told, width in module.signals:
                names[told[1:] if told[0] == "port" else told[1]] = (width, some_word(rule, width))
            for name, width, size in module.memories:
                names[name] = (width, tuple(some_word(rule, width) for _ in range(2 ** size)))
            before = dict(names)
            for _ in range(12):
                expression = of_width(rule, module, 1 + rule.pick(64), 30)
                self.hold(expression, names)
                width, word = word_of(expression, names)
                self.assertEqual(width, width_of(design, module.name, expression))
                self.assertTrue(0 <= word < 2 ** width)
                many += 1
            self.assertEqual(names, before)
        self.assertEqual(many, 720)

    def test_each_kind_deep_within_itself(self):
        for kind in TWO_SIDED + ONE_SIDED + SHIFTS + ("slice", "if", "read"):
            for expression in deep(kind, 300):
                width, word = word_of(expression, {"a": (1, 1), "m": (1, (1, 0))})
                self.assertEqual(width, 1)
                self.assertIn(word, (0, 1))
        whole = A
        for _ in range(3000):
            whole = ("minus", whole)
        self.assertEqual(word_of(whole, {"a": (8, 77)}), (8, 77))
        for expression in deep("join", 63):
            self.assertEqual(word_of(expression, {"a": (1, 1)}), (64, 2 ** 64 - 1))


if __name__ == "__main__":
    unittest.main()
