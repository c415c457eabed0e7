"""Designs to texts: design_text and Fact A of [7]."""

import unittest

from everycycle.errors import BadLine
from everycycle.texts import design_of, design_text
from tests.fixed import INNER, KINDS, ONE_SIDED, SHIFTS, TWO_SIDED, Rule, around, deep, design, expression, item
from tests.grammar import is_right
from tests.written import IF, spaced, written

A, B, C, D = ("name", "a"), ("name", "b"), ("name", "c"), ("name", "d")


def text_of(told):
    """The text of an expression, as a wire has it."""
    text = design_text((("module", "m", (("wire", "w", 1, told),)),))
    assert text.startswith("module m\n  wire w: 1 = ") and text.endswith("\nend\n")
    return text[len("module m\n  wire w: 1 = "):-len("\nend\n")]


def read_again(text):
    """The expression of a text as a wire has it, None if it has none."""
    try:
        return design_of(f"module m\nwire w: 1 = {text}\nend")[0][2][0][3]
    except BadLine:
        return None


def bracket_pairs(text):
    """The places of the round brackets of an expression that are no use's, in pairs."""
    opened, pairs = [], []
    for place, sign in enumerate(text):
        if sign == "(":
            opened.append(place)
        elif sign == ")":
            pairs.append((opened.pop(), place))
    return pairs


class PlainTexts(unittest.TestCase):
    def test_each_kind_of_item(self):
        for told, line in [
            (("input", "a", 8), "input a: 8"), (("reg", "a", 8, 3), "reg a: 8 = 3"),
            (("memory", "a", 8, 3), "memory a: 8 by 3"), (("wire", "a", 8, B), "wire a: 8 = b"),
            (("output", "a", 8, B), "output a: 8 = b"), (("next", "a", B), "next a = b"),
            (("write", "m", A, B, C), "write m[b] = c when a"), (("use", "u", "m", ()), "use u: m()"),
            (("use", "u", "m", (("p", A),)), "use u: m(p = a)"),
            (("use", "u", "m", (("p", A), ("q", B), ("p", C))), "use u: m(p = a, q = b, p = c)"),
            (("write", "m", ("if", A, B, C), ("if", A, B, C), ("or", A, B)),
             "write m[if a then b else c] = a | b when if a then b else c"),
            (("use", "u", "m", (("p", ("if", A, B, C)), ("q", ("or", A, B)))), "use u: m(p = if a then b else c, q = a | b)"),
            (("next", "a", ("if", A, B, C)), "next a = if a then b else c"),
        ]:
            self.assertEqual(design_text((("module", "m", (told,)),)), f"module m\n  {line}\nend\n")

    def test_modules_and_lines(self):
        told = (("module", "a", ()), ("module", "b", (("input", "x", 1), ("input", "y", 2))), ("module", "c", ()))
        text = "module a\nend\nmodule b\n  input x: 1\n  input y: 2\nend\nmodule c\nend\n"
        self.assertEqual(design_text(told), text)
        self.assertEqual(design_of(text), told)

    def test_each_kind_of_expression(self):
        for told, text in [
            (("number", 8, 255), "8#255"), (("number", 0, 0), "0#0"), (A, "a"), (("port", "u", "o"), "u.o"),
            (("read", "m", A), "m[a]"), (("not", A), "~a"), (("minus", A), "-a"), (("and", A, B), "a & b"),
            (("or", A, B), "a | b"), (("xor", A, B), "a ^ b"), (("plus", A, B), "a + b"), (("times", A, B), "a * b"),
            (("equal", A, B), "a == b"), (("below", A, B), "a < b"), (("left", A, 3), "a << 3"),
            (("right", A, 0), "a >> 0"), (("slice", A, 3, 3), "a[3]"), (("slice", A, 7, 4), "a[7:4]"),
            (("slice", A, 4, 7), "a[4:7]"), (("if", A, B, C), "if a then b else c"), (("join", (A, B)), "{a, b}"),
            (("join", (A, B, C, D)), "{a, b, c, d}"), (("number", 10 ** 20 - 1, 10 ** 20 - 1), "9" * 20 + "#" + "9" * 20),
        ]:
            self.assertEqual(text_of(told), text)

    def test_what_is_not_told(self):
        for told, text in [
            (("not", ("equal", A, B)), "~(a == b)"), (("not", ("below", B, A)), "~(b < a)"),
            (("plus", A, ("minus", B)), "a + -b"), (("plus", ("minus", A), ("minus", B)), "-a + -b"),
            (("minus", ("minus", A)), "--a"), (("not", ("minus", ("not", A))), "~-~a"),
            (("plus", A, ("minus", ("minus", B))), "a + --b"), (("plus", A, ("minus", ("times", B, C))), "a + -(b * c)"),
        ]:
            self.assertEqual(text_of(told), text)

    def test_round_brackets_by_hand(self):
        for told, text in [
            (("plus", ("plus", A, B), C), "a + b + c"), (("plus", A, ("plus", B, C)), "a + (b + c)"),
            (("or", A, ("or", B, C)), "a | (b | c)"), (("xor", A, ("xor", B, C)), "a ^ (b ^ c)"),
            (("and", A, ("and", B, C)), "a & (b & c)"), (("times", A, ("times", B, C)), "a * (b * c)"),
            (("and", ("and", A, B), C), "a & b & c"), (("times", ("times", A, B), C), "a * b * c"),
            (("equal", ("equal", A, B), C), "(a == b) == c"), (("below", A, ("below", B, C)), "a < (b < c)"),
            (("equal", ("plus", A, B), ("times", C, D)), "a + b == c * d"), (("and", ("equal", A, B), ("below", C, D)),
                                                                              "a == b & c < d"),
            (("times", ("plus", A, B), ("plus", C, D)), "(a + b) * (c + d)"), (("left", ("left", A, 1), 2), "a << 1 << 2"),
            (("left", ("right", A, 1), 2), "a >> 1 << 2"), (("left", ("times", A, B), 2), "(a * b) << 2"),
            (("times", ("left", A, 1), ("right", B, 2)), "a << 1 * b >> 2"), (("left", ("not", A), 1), "~a << 1"),
            (("not", ("left", A, 1)), "~(a << 1)"), (("not", ("slice", A, 1, 0)), "~a[1:0]"),
            (("slice", ("not", A), 1, 0), "(~a)[1:0]"), (("slice", ("slice", A, 3, 2), 1, 1), "a[3:2][1]"),
            (("slice", ("read", "m", A), 1, 0), "m[a][1:0]"), (("slice", ("port", "u", "o"), 1, 1), "u.o[1]"),
            (("slice", ("number", 8, 3), 1, 1), "8#3[1]"), (("slice", ("join", (A, B)), 1, 0), "{a, b}[1:0]"),
            (("slice", ("if", A, B, C), 1, 0), "(if a then b else c)[1:0]"), (("read", "m", ("number", 3, 1)), "m[3#1]"),
            (("read", "m", ("if", A, B, C)), "m[if a then b else c]"), (("minus", ("if", A, B, C)), "-(if a then b else c)"),
            (("or", ("if", A, B, C), D), "(if a then b else c) | d"), (("or", A, ("if", A, B, C)), "a | (if a then b else c)"),
            (("if", ("if", A, B, C), ("if", A, B, C), ("if", A, B, C)), "if if a then b else c then if a then b else c "
                                                                        "else if a then b else c"),
            (("join", (("if", A, B, C), ("or", A, B))), "{if a then b else c, a | b}"),
            (("if", ("or", A, B), ("or", B, C), ("or", C, D)), "if a | b then b | c else c | d"),
            (("or", ("xor", ("and", ("equal", ("plus", ("times", ("left", ("not", A), 1), B), C), D), A), B), C),
             "~a << 1 * b + c == d & a ^ b | c"),
            (("not", ("left", ("times", A, ("plus", B, ("equal", C, ("and", A, ("xor", B, ("or", C, D)))))), 1)),
             "~((a * (b + (c == (a & (b ^ (c | d)))))) << 1)"),
        ]:
            self.assertEqual(text_of(told), text)
            self.assertEqual(read_again(text), told)


class FactA(unittest.TestCase):
    def hold(self, told):
        text = design_text(told)
        self.assertEqual(design_of(text), told)
        self.assertEqual(design_text(design_of(text)), text)
        lines = text.split("\n")
        self.assertEqual(lines.pop(), "")
        for line in lines:
            self.assertNotEqual(line.strip(), "")
            for sign in ("!=", "<=", " - ", "   "):
                self.assertNotIn(sign, line)
            self.assertEqual(line.startswith("  "), not line.startswith(("module ", "end")))
            self.assertTrue(line.startswith("module ") or is_right("within", line) or len(line) > 300)

    def test_items_of_each_kind(self):
        rule = Rule(5)
        for kind in KINDS:
            for size in range(1, 12):
                self.hold((("module", "m", (item(rule, kind, size),)),))

    def test_expressions_of_each_kind(self):
        rule = Rule(6)
        for kind in INNER:
            for size in range(2, 30):
                told = around(rule, kind, size)
                self.hold((("module", "m", (("next", "a", told), ("write", "m", told, told, told))),))

    def test_designs(self):
        rule = Rule(7)
        for turn in range(150):
            self.hold(design(rule, 1 + turn % 25))

    def test_deep_ones(self):
        for kind in INNER:
            for told in deep(kind, 20):
                self.hold((("module", "m", (("wire", "w", 1, told),)),))
        for kind in INNER:
            for told in deep(kind, 280):
                made = (("module", "m", (("wire", "w", 1, told),)),)
                text = design_text(made)
                self.assertTrue(design_of(text) == made)
                self.assertEqual(design_text(design_of(text)), text)

    def test_each_kind_within_each_other_at_each_place(self):
        samples = {kind: around(Rule(8), kind, 4) for kind in INNER}
        for inner in INNER:
            part = samples[inner]
            for kind in TWO_SIDED:
                self.hold((("module", "m", (("next", "a", (kind, part, A)), ("next", "a", (kind, A, part)))),))
            for kind in ONE_SIDED:
                self.hold((("module", "m", (("next", "a", (kind, part)),)),))
            for kind in SHIFTS:
                self.hold((("module", "m", (("next", "a", (kind, part, 5)),)),))
            for told in [("slice", part, 5, 3), ("slice", part, 3, 3), ("if", part, A, B), ("if", A, part, B),
                         ("if", A, B, part), ("join", (part, A)), ("join", (A, part)), ("read", "m", part)]:
                self.hold((("module", "m", (("next", "a", told),)),))

    def test_no_pair_of_round_brackets_can_be_left_out(self):
        rule = Rule(9)
        many = 0
        for turn in range(150):
            told = expression(rule, 2 + turn % 20)
            text = text_of(told)
            for first, last in bracket_pairs(text):
                less = text[:first] + text[first + 1:last] + text[last + 1:]
                self.assertNotEqual(read_again(less), told, text)
                many += 1
        self.assertGreater(many, 300)

    def test_spaces_stand_nowhere_else(self):
        rule = Rule(10)
        for turn in range(150):
            text = text_of(expression(rule, 2 + turn % 20))
            for sign in ("|", "^", "&", "==", "<", "+", "*", "<<", ">>", "then", "else"):
                plain = text.replace("<<", "L").replace(">>", "R")
                found = {"<<": "L", ">>": "R"}.get(sign, sign)
                if sign not in ("then", "else"):
                    self.assertEqual(plain.count(found), plain.count(f" {found} "), text)
            for sign in ("( ", " )", "[ ", " ]", "{ ", " }", " ,", " .", ". ", "~ ", "- ", " :", ": ", " #", "# ", "  "):
                self.assertNotIn(sign, text)
            self.assertEqual(text.count(","), text.count(", "))

    def test_texts_read_told_and_read_again(self):
        rule = Rule(11)
        for turn in range(200):
            tokens, told = written(rule, 1 + turn % 30, IF)
            line = "next a = " + spaced(tokens, lambda k: rule.pick(3))
            read = design_of(f"\nmodule m\n\n{line}\n end")
            self.assertEqual(read, (("module", "m", (("next", "a", told),)),))
            self.assertEqual(design_of(design_text(read)), read)


if __name__ == "__main__":
    unittest.main()
