"""What is as large as [2] and [10] let callers pass, or somewhat larger, is handled."""

import unittest

from everycycle.designs import check, names_in, width_of
from everycycle.errors import BadLine, NoName
from everycycle.texts import design_of, design_text
from tests.asking import Asking
from tests.fixed import INNER, Rule, deep
from tests.meaning import Module, design_of_modules, of_width, put_item

HEAD = "module m\n  input a: 1\n"


def module_of(expression):
    return ("module", "m", (("input", "a", 1), ("memory", "m", 1, 1), ("wire", "w", 1, expression)))


def as_deep_text(start, behind, many):
    return start * many + "a" + behind * many


class Sizes(unittest.TestCase, Asking):
    def hold_text(self, line):
        """A line that has its plain form already."""
        text = f"{HEAD}  wire w: 1 = {line}\nend\n"
        design = design_of(text)
        self.assertEqual(design_text(design), text)
        self.assertIsNone(check(design))
        self.assertEqual(width_of(design, "m", design[0][2][1][3]), 1)
        return design[0][2][1][3]

    def test_lines_of_3000_characters(self):
        self.hold_text(as_deep_text("~", "", 2900))
        self.hold_text(as_deep_text("-", "", 2900))
        for sign in ("|", "^", "&", "+", "*"):
            expression = self.hold_text(as_deep_text("", f" {sign} a", 740))
            self.assertEqual(names_in(expression), ("a",) * 741)
        self.hold_text(as_deep_text("", " << 1", 590))
        self.hold_text(as_deep_text("", " >> 1", 590))
        self.hold_text(as_deep_text("", "[0]", 980))
        self.hold_text(as_deep_text("if a then a else ", "", 170))
        self.hold_text(as_deep_text("if a then ", " else a", 170))
        self.hold_text(as_deep_text("if ", " then a else a", 170))
        self.hold_text(as_deep_text("~(a + ", ")", 300))

    def test_a_join_of_a_long_line(self):
        text = f"{HEAD}  wire w: 64 = {{{', '.join(['a'] * 64)}}}\nend\n"
        self.assertIsNone(check(design_of(text)))
        text = f"{HEAD}  wire w: 64 = {{{', '.join(['a'] * 990)}}}\nend\n"
        self.assertEqual(design_text(design_of(text)), text)

    def test_brackets_twenty_deep_and_more(self):
        for many in (20, 25, 200):
            round_ones = design_of(f"{HEAD}wire w: 1 = {'(' * many}a{')' * many}\nend")
            self.assertEqual(round_ones[0][2][1], ("wire", "w", 1, ("name", "a")))
            for start, behind in [("{a, ", "}"), ("{", ", a}"), ("mm[", "]"), ("(a | ", ")"), ("{a, mm[(", ")]}")]:
                text = f"{HEAD}  wire w: 1 = {as_deep_text(start, behind, many)}\nend\n"
                again = design_text(design_of(text))
                self.assertEqual(design_text(design_of(again)), again)

    def test_a_wrong_character_far_behind(self):
        for line in ("  wire w: 1 = " + "~" * 2900, "  wire w: 1 = " + "a + " * 700, "  wire w: 1 = " + "(" * 2900):
            fields = {"line": 3, "column": len(line) + 1}
            self.assertFails(BadLine, fields, design_of, HEAD + line)
            self.assertFails(BadLine, fields, design_of, HEAD + line + "?\nend")

    def test_expressions_of_300_parts_in_one_another(self):
        one = ("name", "a")
        for kind in INNER:
            for expression in deep(kind, 299):
                design = (module_of(one), ("module", "n", ()))
                if kind == "join":
                    continue
                self.assertEqual(width_of(design, "m", expression), 1)
                self.assertIsNone(check((module_of(expression),)))
                again = design_of(design_text((module_of(expression),)))
                self.assertEqual(design_text(again), design_text((module_of(expression),)))

    def test_an_error_far_within(self):
        expression = ("name", "nix")
        for _ in range(2000):
            expression = ("not", ("plus", ("name", "a"), expression))
        self.assertFails(NoName, {"name": "nix"}, check, (module_of(expression),), note="far within")

    def test_six_modules_of_24_items(self):
        rule = Rule(13)
        modules = []
        for place in range(7):
            module = Module(f"m{place}")
            while len(module.items) < 25:
                put_item(rule, module, modules, 12)
            modules.append(module)
        design = design_of_modules(modules)
        self.assertIsNone(check(design))
        text = design_text(design)
        self.assertGreater(len(text.split("\n")), 180)
        self.assertEqual(design_of(text), design)
        for module in modules:
            for width in (1, 8, 64):
                self.assertEqual(width_of(design, module.name, of_width(rule, module, width, 250)), width)

    def test_200_long_lines(self):
        line = "  next a = " + " + ".join(["(b * 8#1)[0]"] * 198) + "\n"
        self.assertGreater(len(line), 2900)
        text = "module m\n" + line * 200 + "end\n"
        design = design_of(text)
        self.assertEqual(len(design[0][2]), 200)
        self.assertEqual(design_text(design), text)


if __name__ == "__main__":
    unittest.main()
