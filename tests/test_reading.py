"""Texts to designs: [5], [6] and the first part of [7]."""

import unittest

from everycycle.errors import BadLine
from everycycle.texts import design_of
from tests.asking import Asking
from tests.fixed import Rule
from tests.grammar import WORDS
from tests.written import FORMS, IF, PART, SIGNED, SIGNS, of_form, spaced, written

A, B, C, D = ("name", "a"), ("name", "b"), ("name", "c"), ("name", "d")


def expression_of(text):
    """The expression of a text, as a wire, an output, a port, a next and the parts of a write have it."""
    lines = [
        f"wire w: 1 = {text}", f"output w: 1 = {text}", f"use w: m(p = {text}, q = {text})", f"next w = {text}",
        f"write w[{text}] = {text} when {text}",
    ]
    module, = design_of("module m\n" + "\n".join(lines) + "\nend\n")
    wire, output, use, led, write = module[2]
    found = [wire[3], output[3], use[3][0][1], use[3][1][1], led[2], *write[2:]]
    for one in found:
        assert one == found[0]
    return found[0]


def items_of(*lines):
    """The items of a module of these lines."""
    module, = design_of("\n".join(["module m", *lines, "end"]))
    return module[2]


class Items(unittest.TestCase):
    def test_each_kind(self):
        for line, told in [
            ("input a: 8", ("input", "a", 8)),
            ("reg a: 8 = 3", ("reg", "a", 8, 3)),
            ("memory a: 8 by 3", ("memory", "a", 8, 3)),
            ("wire a: 8 = b", ("wire", "a", 8, B)),
            ("output a: 8 = b", ("output", "a", 8, B)),
            ("next a = b", ("next", "a", B)),
            ("write a[b] = c when d", ("write", "a", D, B, C)),
            ("use a: b()", ("use", "a", "b", ())),
            ("use a: b(c = d)", ("use", "a", "b", (("c", D),))),
            ("use a: b(c = d, d = c, a = a)", ("use", "a", "b", (("c", D), ("d", C), ("a", A)))),
        ]:
            self.assertEqual(items_of(line), (told,), line)

    def test_several_stand_in_order(self):
        lines = ["next z = b", "input a: 8", "input a: 8", "wire w: 0 = a"]
        told = (("next", "z", B), ("input", "a", 8), ("input", "a", 8), ("wire", "w", 0, A))
        self.assertEqual(items_of(*lines), told)

    def test_modules_stand_in_order(self):
        text = "module b\nend\nmodule a\ninput a: 1\nend\nmodule b\nend\n"
        told = (("module", "b", ()), ("module", "a", (("input", "a", 1),)), ("module", "b", ()))
        self.assertEqual(design_of(text), told)

    def test_all_is_of_tuples(self):
        design = design_of("module m\nuse a: b(c = {d, e})\nend")
        seen = [design]
        for value in seen:
            self.assertIs(value.__class__, tuple)
            seen.extend([part for part in value if not isinstance(part, str)])

    def test_a_wire_that_reads_itself_is_read(self):
        self.assertEqual(items_of("wire a: 99 = a"), (("wire", "a", 99, A),))


class Lines(unittest.TestCase):
    def test_the_last_line_end_may_be_left_out(self):
        told = (("module", "m", (("input", "a", 1),)),)
        self.assertEqual(design_of("module m\ninput a: 1\nend\n"), told)
        self.assertEqual(design_of("module m\ninput a: 1\nend"), told)

    def test_empty_lines_and_lines_of_spaces_mean_nothing(self):
        told = (("module", "m", (("input", "a", 1),)), ("module", "n", ()))
        for empty in ("\n", "   \n", "\n \n\n"):
            rows = ["module m", "input a: 1", "end", "module n", "end"]
            text = empty + empty.join([row + "\n" for row in rows]) + empty
            self.assertEqual(design_of(text), told)
            self.assertEqual(design_of(text + "  "), told)

    def test_spaces_wherever_they_may_stand(self):
        rows = [
            ["input", "a", ":", "8"], ["reg", "a", ":", "8", "=", "3"], ["memory", "a", ":", "8", "by", "3"],
            ["wire", "a", ":", "8", "=", "b"], ["output", "a", ":", "8", "=", "b"], ["next", "a", "=", "b"],
            ["write", "m", "[", "a", "]", "=", "b", "when", "c"], ["use", "u", ":", "m", "(", ")"],
            ["use", "u", ":", "m", "(", "p", "=", "a", ",", "q", "=", "b", ")"],
            ["next", "a", "=", "if", "a", "==", "b", "then", "-", "~", "c", "[", "3", ":", "2", "]", "else", "u", ".", "o"],
            ["next", "a", "=", "{", "a", "[", "3", "]", ",", "m", "[", "8#3", "]", "[", "0", "]", "}", "<<", "3"],
            ["next", "a", "=", "(", "a", "<", "b", ")", "|", "(", "a", "<=", "b", ")", ">>", "1", "^", "c", "!=", "d"],
            ["next", "a", "=", "a", "*", "b", "+", "c", "-", "d", "&", "8#0", "+", "-", "9#1"],
        ]
        for row in rows:
            told = items_of(" ".join(row))
            self.assertEqual(items_of(spaced(row, lambda k: 0)), told)
            self.assertEqual(items_of(spaced(row, lambda k: 3)), told)
            for alone in range(len(row) + 1):
                self.assertEqual(items_of(spaced(row, lambda k: 1 if k == alone else 0)), told)
        for text in ("module m\nend", "  module   m  \n  end  \n"):
            self.assertEqual(design_of(text), (("module", "m", ()),))


class Words(unittest.TestCase, Asking):
    def test_wholes(self):
        for digits in ("0", "1", "10", "9" * 19, "1" + "0" * 19, "9" * 20):
            self.assertEqual(items_of(f"input a: {digits}"), (("input", "a", int(digits)),))
            self.assertEqual(items_of(f"reg a: {digits} = {digits}"), (("reg", "a", int(digits), int(digits)),))
            self.assertEqual(items_of(f"memory a: {digits} by {digits}"), (("memory", "a", int(digits), int(digits)),))
            self.assertEqual(expression_of(f"{digits}#{digits}"), ("number", int(digits), int(digits)))
            self.assertEqual(expression_of(f"a[{digits}]"), ("slice", A, int(digits), int(digits)))
            self.assertEqual(expression_of(f"a[{digits}:0]"), ("slice", A, int(digits), 0))
            self.assertEqual(expression_of(f"a[0:{digits}]"), ("slice", A, 0, int(digits)))
            self.assertEqual(expression_of(f"a << {digits}"), ("left", A, int(digits)))
            self.assertEqual(expression_of(f"a >> {digits}"), ("right", A, int(digits)))

    def test_no_wholes(self):
        for digits, right in [("00", 1), ("01", 1), ("0123", 1), ("1" * 21, 20), ("9" * 22, 20), ("1_0", 1), ("1a", 1)]:
            for line in ["input a: ", "reg a: 1 = ", "memory a: 1 by ", "next a = 8#", "next a = b[", "next a = b[1:",
                         "next a = b << ", "next a = b >> ", "next a = ", "next a = (b)["]:
                fields = {"line": 2, "column": len(line) + right + 1}
                self.assertFails(BadLine, fields, items_of, line + digits)

    def test_names(self):
        for name in ("a", "z", "a0", "a_", "a" * 12, "a23456789_12", "modules", "if_", "iff", "inputs", "en", "i"):
            self.assertEqual(design_of(f"module {name}\nend"), (("module", name, ()),))
            self.assertEqual(items_of(f"input {name}: 1"), (("input", name, 1),))
            self.assertEqual(items_of(f"use {name}: {name}({name} = {name})"),
                             (("use", name, name, ((name, ("name", name)),)),))
            self.assertEqual(expression_of(name), ("name", name))
            self.assertEqual(expression_of(f"{name}.{name}"), ("port", name, name))
            self.assertEqual(expression_of(f"{name}[{name}]"), ("read", name, ("name", name)))
            self.assertEqual(items_of(f"write {name}[a] = b when c"), (("write", name, C, A, B),))
            self.assertEqual(items_of(f"next {name} = b"), (("next", name, B),))

    def test_no_names(self):
        ahead = ["input ", "reg ", "memory ", "wire ", "output ", "use ", "use u: ", "use u: m(", "use u: m(p = a, ",
                 "next ", "write ", "next a = u.", "next a = b + ", "next a = -", "next a = b == "]
        for start in ahead:
            for word in WORDS:
                fields = {"line": 2, "column": len(start + word) + 1}
                for behind in ("", " ", ":", ")", "(", " b"):
                    self.assertFails(BadLine, fields, items_of, start + word + behind, note=start + word + behind)
            for name, right in [("a" * 13, 12), ("a23456789_123", 12), ("_a", 0), ("1a", 0), ("A", 0), ("", 0)]:
                if start + name not in ("next a = b + 1a", "next a = -1a", "next a = b == 1a"):
                    fields = {"line": 2, "column": len(start) + right + 1}
                    self.assertFails(BadLine, fields, items_of, start + name, note=start + name)
        for word in WORDS:
            self.assertFails(BadLine, {"line": 1, "column": len(word) + 8}, design_of, f"module {word} \nend")

    def test_spaces_where_they_may_not_stand(self):
        for line, place in [
            ("next a = b = = c", 12), ("next a = b ! = c", 12), ("next a = b < = c", 13), ("next a = b < < 1", 13),
            ("next a = b > > 1", 12), ("next a = 8 #1", 10), ("next a = 8# 1", 11), ("next a = b[8 #1]", 13),
            ("in put a: 1", 2), ("input a b: 1", 8), ("input a: 1 2", 11), ("next a = b c", 11),
        ]:
            self.assertFails(BadLine, {"line": 2, "column": place + 1}, items_of, line)

    def test_spaces_that_must_stand(self):
        for line, place in [
            ("inputa: 1", 5), ("memory a: 1by 2", 11), ("memory a: 1 by2", 14), ("next a = ifa then b else c", 13),
            ("next a = if a thenb else c", 18), ("next a = if a then b elsec", 25), ("next a = 8#1then", 12),
            ("write m[a] = bwhen c", 19), ("write m[a] = b when8#1", 19), ("next a = if b<<1then c else d", 16),
            ("usea: b()", 3), ("next a = if 8#1 then8#1 else 8#1", 20), ("enda", 3), ("next a = if8#1", 12),
        ]:
            self.assertFails(BadLine, {"line": 2, "column": place + 1}, items_of, line)

    def test_what_touches_signs_needs_no_spaces(self):
        self.assertEqual(expression_of("if(a)then(b)else(c)"), ("if", A, B, C))
        self.assertEqual(expression_of("if-a then~b else{c,d}"), ("if", ("minus", A), ("not", B), ("join", (C, D))))
        self.assertEqual(items_of("write m[a]=(b)when(c)"), (("write", "m", C, A, B),))
        self.assertEqual(items_of("write m[a]=b[0]when~c"), (("write", "m", ("not", C), A, ("slice", B, 0, 0)),))


class Expressions(unittest.TestCase):
    def test_each_kind(self):
        for text, told in [
            ("8#3", ("number", 8, 3)), ("0#0", ("number", 0, 0)), ("a", A), ("u.o", ("port", "u", "o")),
            ("m[a]", ("read", "m", A)), ("~a", ("not", A)), ("-a", ("minus", A)), ("a & b", ("and", A, B)),
            ("a | b", ("or", A, B)), ("a ^ b", ("xor", A, B)), ("a + b", ("plus", A, B)), ("a * b", ("times", A, B)),
            ("a == b", ("equal", A, B)), ("a < b", ("below", A, B)), ("a != b", ("not", ("equal", A, B))),
            ("a <= b", ("not", ("below", B, A))), ("a - b", ("plus", A, ("minus", B))), ("a << 3", ("left", A, 3)),
            ("a >> 3", ("right", A, 3)), ("a[3]", ("slice", A, 3, 3)), ("a[7:4]", ("slice", A, 7, 4)),
            ("a[4:7]", ("slice", A, 4, 7)), ("if a then b else c", ("if", A, B, C)), ("{a, b}", ("join", (A, B))),
            ("{a, b, c, d}", ("join", (A, B, C, D))), ("(a)", A), ("((a))", A), ("(((a + b)))", ("plus", A, B)),
        ]:
            self.assertEqual(expression_of(text), told, text)

    def test_rows_of_like_signs_go_from_the_left(self):
        for sign, (level, left, _, make) in SIGNS.items():
            if left == level:
                self.assertEqual(expression_of(f"a {sign} b {sign} c {sign} d"), make(make(make(A, B), C), D))
                self.assertEqual(expression_of(f"a {sign} (b {sign} c)"), make(A, make(B, C)))
        self.assertEqual(expression_of("a - b + c"), ("plus", ("plus", A, ("minus", B)), C))
        self.assertEqual(expression_of("a + b - c"), ("plus", ("plus", A, B), ("minus", C)))
        self.assertEqual(expression_of("a << 1 >> 2 << 3"), ("left", ("right", ("left", A, 1), 2), 3))
        self.assertEqual(expression_of("a[3][2:1][0]"), ("slice", ("slice", ("slice", A, 3, 3), 2, 1), 0, 0))
        self.assertEqual(expression_of("~-~a"), ("not", ("minus", ("not", A))))

    def test_one_sign_for_two_things(self):
        for text, told in [
            ("a - -b", ("plus", A, ("minus", ("minus", B)))), ("-a - b", ("plus", ("minus", A), ("minus", B))),
            ("a--b", ("plus", A, ("minus", ("minus", B)))), ("a * -b", ("times", A, ("minus", B))),
            ("a < b << 3", ("below", A, ("left", B, 3))), ("a << 3 < b", ("below", ("left", A, 3), B)),
            ("a<b<<3", ("below", A, ("left", B, 3))), ("a<<3<<4", ("left", ("left", A, 3), 4)),
            ("a<<3<=b", ("not", ("below", B, ("left", A, 3)))), ("m[8#3]", ("read", "m", ("number", 8, 3))),
            ("m[8]", ("slice", ("name", "m"), 8, 8)), ("m[8#3 + a]", ("read", "m", ("plus", ("number", 8, 3), A))),
            ("m[(8#3)]", ("read", "m", ("number", 8, 3))), ("m[a][3]", ("slice", ("read", "m", A), 3, 3)),
            ("m[m[m[a]]]", ("read", "m", ("read", "m", ("read", "m", A)))),
            ("m[a[3]]", ("read", "m", ("slice", A, 3, 3))), ("m[ 8#3 [ 1 ] ]", ("read", "m", ("slice", ("number", 8, 3), 1, 1))),
            ("u.o[3]", ("slice", ("port", "u", "o"), 3, 3)), ("8#3[1:0]", ("slice", ("number", 8, 3), 1, 0)),
            ("(a)[3]", ("slice", A, 3, 3)), ("{a, b}[3]", ("slice", ("join", (A, B)), 3, 3)),
            ("m[0]", ("slice", ("name", "m"), 0, 0)), ("m[0#0]", ("read", "m", ("number", 0, 0))),
            ("if if a then b else c then d else if a then b else c", ("if", ("if", A, B, C), D, ("if", A, B, C))),
            ("if a then if b then c else d else a", ("if", A, ("if", B, C, D), A)),
            ("if a then b else c | d", ("if", A, B, ("or", C, D))), ("iff", ("name", "iff")),
            ("m[if a then b else c]", ("read", "m", ("if", A, B, C))),
            ("{if a then b else c, a}", ("join", (("if", A, B, C), A))),
            ("{a, if a then b else c}", ("join", (A, ("if", A, B, C)))),
            ("(if a then b else c) + d", ("plus", ("if", A, B, C), D)),
        ]:
            self.assertEqual(expression_of(text), told, text)

    def test_the_loosest_and_the_tightest_at_every_place(self):
        samples = {
            0: ("if a then b else c", ("if", A, B, C)), 1: ("a | b", ("or", A, B)), 2: ("a ^ b", ("xor", A, B)),
            3: ("a & b", ("and", A, B)), 4: ("a <= b", ("not", ("below", B, A))), 5: ("a - b", ("plus", A, ("minus", B))),
            6: ("a * b", ("times", A, B)), 7: ("a << 1", ("left", A, 1)), 8: ("~a", ("not", A)), 9: ("m[a]", ("read", "m", A)),
        }

        def stood(own, level):
            text, told = samples[own]
            return (text if own >= level else f"({text})"), told

        for own in samples:
            for other in samples:
                for sign, (_, left, right, make) in SIGNS.items():
                    (one, first), (two, second) = stood(own, left), stood(other, right)
                    self.assertEqual(expression_of(f"{one} {sign} {two}"), make(first, second))
                    self.assertEqual(expression_of(f"{one}{sign}{two}"), make(first, second))
            text, told = stood(own, SIGNED)
            self.assertEqual(expression_of(f"~{text}"), ("not", told))
            self.assertEqual(expression_of(f"-{text}"), ("minus", told))
            text, told = stood(own, 7)
            self.assertEqual(expression_of(f"{text} << 2"), ("left", told, 2))
            self.assertEqual(expression_of(f"{text} >> 2"), ("right", told, 2))
            text, told = stood(own, PART)
            self.assertEqual(expression_of(f"{text}[2]"), ("slice", told, 2, 2))
            text, told = samples[own]
            self.assertEqual(expression_of(f"if {text} then {text} else {text}"), ("if", told, told, told))
            self.assertEqual(expression_of(f"{{{text}, {text}}}"), ("join", (told, told)))
            self.assertEqual(expression_of(f"m[{text}]"), ("read", "m", told))
            self.assertEqual(expression_of(f"({text})"), told)

    def test_each_form_deep_within_others(self):
        rule = Rule(1)
        for turn in range(40):
            for form in FORMS:
                _, tokens, told = of_form(rule, form, 2 + turn // 2)
                self.assertEqual(expression_of(spaced(tokens, lambda k: rule.pick(3) // 2)), told)

    def test_many_by_a_fixed_rule(self):
        rule = Rule(2)
        for turn in range(600):
            tokens, told = written(rule, 1 + turn % 40, IF)
            self.assertEqual(expression_of(spaced(tokens, lambda k: rule.pick(4))), told)


if __name__ == "__main__":
    unittest.main()
