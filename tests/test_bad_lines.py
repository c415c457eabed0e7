"""BadLine: for the first wrong line, at the column that [7] defines."""

import unittest

from everycycle.errors import BadLine
from everycycle.texts import design_of
from tests.asking import Asking
from tests.fixed import Rule
from tests.grammar import is_right, may_begin, wrong_column
from tests.written import FORMS, IF, of_form, spaced, written

RIGHT = [
    "input a: 8", "  reg r : 12 = 305  ", "memory mm: 8 by 3", "wire w: 1 = a", "output o:8=a+b", "next r = 8#255",
    "use u: m()", "use u : m ( p = a , q = b == c )", "write mm[8#3 + a] = u.o when c < d >> 3", "end", "  end ",
    "write m[a] = b when c", "next r = if if c then c else c then ~a << 3 >> 2 else -a != b & c == d",
    "wire w: 8 = if c then a+8#3 else mm[ a[2:0] ] [ 7 : 0 ] << 3", "next r = {a, b[3], {c, u . o}}[2:1][0] * (a - b)",
    "next r = ((a <= b) | a ^ b & c) >> 12", "next r = iffy | thenx | m[if a then b else c][0] | {a, if b then c else d}",
    "next r = m[12#34][5:6]", "next r = m[5:6][7]", "next r = {if a then b else c, (if a then b else c)}",
    "next abcdefghij12 = abcdefghij12.abcdefghij12", "wire w: 12345678901234567890 = 12345678901234567890#0",
    "use u: m(p = if a then b else c, q = if b then m[a] else -c)", "write m[if a then b else c] = if a then b else c "
    "when if a then b else c",
]
SIGNS = "aiftewb_089 #[](){}<>=!~-+*&|^:,.A\"%$\t?/;"


def told_of(start, line):
    """The column of the BadLine for a line at its place, None if it is let by."""
    ahead = ["module m", "end"] if start == "between" else ["module m", "input a: 1"]
    try:
        design_of("\n".join([*ahead, line, "end", "module end"]))
    except BadLine as error:
        if error.line == len(ahead) + 1:
            return error.column
    return None


class Columns(unittest.TestCase):
    """The columns against their definition, by a grammar that is written apart from the program."""

    def hold(self, start, line):
        self.assertEqual(told_of(start, line), wrong_column(start, line), (start, line))

    def test_the_right_lines_are_right(self):
        for line in RIGHT:
            self.assertTrue(is_right("within", line), line)
            self.assertIsNone(told_of("within", line), line)
            for cut in range(len(line) + 1):
                self.assertTrue(may_begin("within", line[:cut]))

    def test_lines_cut_off_at_each_character(self):
        for line in RIGHT:
            for cut in range(len(line) + 1):
                self.hold("within", line[:cut])
                self.hold("within", line[:cut] + "  ")
                self.hold("within", line[cut:])

    def test_a_cut_off_line_is_wrong_behind_its_end(self):
        for line in ["input a:", "input a", "wire w: 8 =", "wire w: 8 = a +  ", "use u: m(p", "write m[a] = b wh",
                     "next a = (b", "next a = {b, c", "next a = m[8", "next a = 8#", "next a = if", "ne", "  next"]:
            self.assertEqual(told_of("within", line), len(line) + 1)

    def test_another_character_at_each_place(self):
        for line in RIGHT:
            for cut in range(len(line) + 1):
                for sign in SIGNS:
                    self.hold("within", line[:cut] + sign + line[cut + 1:])

    def test_one_character_more_at_each_place(self):
        for line in RIGHT:
            for cut in range(len(line) + 1):
                for sign in SIGNS:
                    self.hold("within", line[:cut] + sign + line[cut:])

    def test_one_character_or_more_left_out(self):
        for line in RIGHT:
            for cut in range(len(line)):
                for many in (1, 2, 3, 5):
                    self.hold("within", line[:cut] + line[cut + many:])

    def test_words_at_each_place(self):
        for line in RIGHT:
            for cut in range(len(line)):
                for word in (" if ", " then ", " else", " when ", "abcdefghijklm", "<<", "==", "[8]", "[a]", "8#8", " m "):
                    self.hold("within", line[:cut] + word + line[cut:])

    def test_one_line_goes_over_into_another(self):
        for line in RIGHT:
            for other in RIGHT:
                for part in (2, 3, 5):
                    self.hold("within", line[:len(line) * part // 6] + other[len(other) * part // 6:])

    def test_many_by_a_fixed_rule(self):
        rule = Rule(3)
        for turn in range(300):
            tokens, _ = written(rule, 2 + turn % 20, IF)
            line = "wire w: 8 = " + spaced(tokens, lambda k: rule.pick(3) // 2)
            self.hold("within", line)
            for _ in range(6):
                cut = 12 + rule.pick(len(line) - 11)
                self.hold("within", line[:cut] + rule.one_of(SIGNS) + line[cut + rule.pick(3):])

    def test_each_form_is_cut_short(self):
        rule = Rule(4)
        for form in FORMS:
            for _ in range(6):
                _, tokens, _ = of_form(rule, form, 5)
                for start in ("next a = ", "next a = ~", "next a = b == ", "next a = (", "next a = {b, ", "write m[",
                              "next a = m[", "next a = if ", "use u: m(p = "):
                    line = start + spaced(tokens, lambda k: 0)
                    self.hold("within", line)
                    self.hold("within", line[:-1])
                    self.hold("within", line + ")")
                    self.hold("within", line + "]")
                    self.hold("within", line + " then")

    def test_between_modules(self):
        for line in [*RIGHT, "module m", " module  abc ", "module", "module if", "module end ", "modul", "mod ule",
                     "module 1", "module a b", "module abcdefghijklm", "modulea", "x", " ", "", "?", "MODULE a", "module a:"]:
            for cut in range(len(line) + 1):
                self.hold("between", line[:cut])
                for sign in SIGNS:
                    self.hold("between", line[:cut] + sign + line[cut:])

    def test_by_hand(self):
        for line, column in [
            ("wire a = b", 8), ("wire a: 8 = b = c", 16), ("wire a: 8 = b == c == d", 20), ("wire a: 8 = b < c < d", 20),
            ("wire a: 8 = b > c", 16), ("wire a: 8 = b + if c then d else a", 19), ("wire a: 8 = 8", 14),
            ("wire a: 8 = b[8 + 1]", 17), ("wire a: 8 = b.c[d]", 17), ("wire a: 8 = b[1][c]", 18), ("wire a: 8 = {b}", 15),
            ("wire a: 8 = ()", 14), ("wire a: 8 = b << c", 18), ("wire a: 8 = b <<", 17), ("wire a: 8 = b << 1[0]", 19),
            ("wire a: 8 = (b", 15), ("wire a: 8 = b)", 14), ("wire a: 8 = if b then c", 24), ("wire a: 8 = then", 17),
            ("wire a: 8 = then b", 17), ("wire a: 8 = b then", 15), ("use u: m(p = a,)", 16), ("use u: m(,", 10),
            ("use u: m", 9), ("use u: m(p)", 11), ("write m = a when b", 9), ("write m[8] = a when b", 10),
            ("write m[a] = b", 15), ("write m[a] == b when c", 13), ("input a: 8 = 3", 12), ("reg a: 8", 9),
            ("memory a: 8 by", 15), ("memory a: 8 bz 3", 14), ("module a", 2), ("endmodule", 4), ("end end", 5),
            ("wire a: 8 = u.then + b", 19), ("wire a: 8 = ~if b then c else d", 16), ("wire a: 8 = b ~ c", 15),
            ("wire a: 8 = b<=<c", 16), ("wire a: 8 = b !", 16), ("wire a: 8 = b ! c", 16), ("wire a: 8 = é", 13),
            ("wire a: 8 = (if b then c else d == a == b)", 38), ("wire a: 8 = if b then c else d e", 32),
            ("\tend", 1), ("input a:\t1", 9), ("input a: 1\r", 11), ("input a: ١", 10), ("inpuT a: 1", 5),
        ]:
            self.assertEqual(told_of("within", line), column, line)
            self.assertEqual(wrong_column("within", line), column, line)


class Places(unittest.TestCase, Asking):
    def fails(self, text, line, column):
        self.assertFails(BadLine, {"line": line, "column": column}, design_of, text)

    def test_the_first_wrong_line_counts(self):
        self.fails("module m\ninput a: 1\ninput b: x\nwire\n?\nend", 3, 10)
        self.fails("\n\nmodule m\n  \n\ninput a; 1\nend\n?", 6, 8)
        self.fails("?\nmodule m\nend", 1, 1)
        self.fails("module m\nend\n  ?\nmodule", 3, 3)
        self.fails("module m\nend\nmodule n\nend x\n", 4, 5)

    def test_a_line_of_one_kind_where_another_is_due(self):
        self.fails("input a: 1\nmodule m\nend", 1, 1)
        self.fails("memory a: 1 by 1\nmodule m\nend", 1, 2)
        self.fails("end", 1, 1)
        self.fails("module m\nend\nend", 3, 1)
        self.fails("module m\nend\nwire a: 1 = a", 3, 1)
        self.fails("module m\nmodule n\nend\nend", 2, 2)
        self.fails("module m\n  module n", 2, 4)

    def test_a_text_that_ends_within_a_module(self):
        self.fails("module m", 2, 1)
        self.fails("module m\n", 2, 1)
        self.fails("module m\n\n", 3, 1)
        self.fails("module m\n  ", 3, 1)
        self.fails("module m\ninput a: 1\n", 3, 1)
        self.fails("module m\nend\nmodule n\ninput a: 1", 5, 1)

    def test_a_text_without_a_module(self):
        self.fails("", 1, 1)
        self.fails("\n", 2, 1)
        self.fails("   ", 2, 1)
        self.fails("  \n", 2, 1)
        self.fails("\n\n\n", 4, 1)
        self.fails("\n\n ", 4, 1)

    def test_a_wrong_line_goes_ahead_of_an_end_within_a_module(self):
        self.fails("module m\ninput a", 2, 8)
        self.fails("module ", 1, 8)

    def test_what_is_no_string(self):
        for value in (None, 0, 1, True, b"module m\nend\n", ["module m", "end"], ("module m",), {}, object(), str):
            self.fails(value, 0, 0)


if __name__ == "__main__":
    unittest.main()
