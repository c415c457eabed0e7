"""The widths and names of expressions: width_of of [8], names_in of [9]."""

import unittest

from everycycle.designs import check, names_in, width_of
from everycycle.errors import NoName
from tests.asking import Asking
from tests.fixed import INNER, NAMES, Rule, around, deep
from tests.meaning import design_of_modules, meant, of_width
from tests.test_check import A, AD, AHEAD, BASE, C, NIX, PLACES, R, W, WIDE, Y, wrong_ones

DESIGN = (AHEAD, ("module", "top", BASE), ("module", "behind", (("input", "z", 5), ("output", "o", 5, ("name", "z")))))


def told(expression):
    return width_of(DESIGN, "top", expression)


class Widths(unittest.TestCase, Asking):
    def test_the_design_is_checked(self):
        self.assertIsNone(check(DESIGN))

    def test_each_kind(self):
        for expression, width in [
            (("number", 1, 1), 1), (("number", 64, 0), 64), (A, 8), (C, 1), (AD, 3), (R, 8), (W, 8), (Y, 8),
            (("port", "u", "o"), 8), (("port", "u", "s"), 1), (("read", "mm", AD), 8), (("not", AD), 3), (("minus", AD), 3),
            (("and", A, R), 8), (("or", AD, AD), 3), (("xor", C, C), 1), (("plus", WIDE, WIDE), 64), (("times", AD, AD), 3),
            (("equal", A, R), 1), (("below", WIDE, WIDE), 1), (("left", AD, 64), 3), (("right", A, 0), 8),
            (("slice", A, 7, 0), 8), (("slice", A, 6, 2), 5), (("slice", A, 3, 3), 1), (("if", C, AD, AD), 3),
            (("if", ("equal", A, A), WIDE, WIDE), 64), (("join", (A, C)), 9), (("join", (A, A, AD, C)), 20),
            (("slice", ("join", (A, AD)), 10, 8), 3), (("read", "mm", ("slice", ("read", "mm", AD), 2, 0)), 8),
        ]:
            self.assertEqual(told(expression), width, expression)

    def test_each_error_has_an_empty_name(self):
        for expression, kind, fields in wrong_ones(""):
            for place in PLACES:
                self.assertFails(kind, fields, told, place(expression))

    def test_the_expression_stands_last_in_its_module(self):
        self.assertEqual(width_of(DESIGN, "m", ("name", "s")), 1)
        self.assertEqual(width_of(DESIGN, "m", ("read", "me", ("name", "q"))), 8)
        self.assertEqual(width_of(DESIGN, "behind", ("name", "o")), 5)
        self.assertFails(NoName, {"name": "a"}, width_of, DESIGN, "m", A)
        self.assertFails(NoName, {"name": "z"}, told, ("name", "z"))
        self.assertFails(NoName, {"name": "u"}, width_of, DESIGN, "behind", ("port", "u", "o"))
        self.assertFails(NoName, {"name": "mm"}, width_of, DESIGN, "m", ("read", "mm", AD))

    def test_many_by_a_fixed_rule(self):
        for number in range(150):
            modules = meant(number, 4)
            design = design_of_modules(modules)
            rule = Rule(number)
            for module in modules:
                for width in (1, 2, 3, 8, 32, 64):
                    expression = of_width(rule, module, width, 1 + rule.pick(20))
                    self.assertEqual(width_of(design, module.name, expression), width)


class Names(unittest.TestCase):
    def test_each_kind(self):
        a, b, c = ("name", "a"), ("name", "b"), ("port", "c", "d")
        for expression, names in [
            (("number", 8, 1), ()), (a, ("a",)), (c, (("c", "d"),)), (("read", "m", a), ("m", "a")), (("not", a), ("a",)),
            (("minus", a), ("a",)), (("and", a, b), ("a", "b")), (("or", b, a), ("b", "a")), (("xor", a, a), ("a", "a")),
            (("plus", c, a), (("c", "d"), "a")), (("times", a, c), ("a", ("c", "d"))), (("equal", a, b), ("a", "b")),
            (("below", b, a), ("b", "a")), (("left", a, 3), ("a",)), (("right", a, 3), ("a",)), (("slice", a, 3, 1), ("a",)),
            (("if", a, b, c), ("a", "b", ("c", "d"))), (("join", (c, b, a, b)), (("c", "d"), "b", "a", "b")),
            (("read", "m", ("read", "n", ("plus", a, ("read", "m", b)))), ("m", "n", "a", "m", "b")),
            (("if", ("equal", ("read", "m", b), c), ("join", (a, ("number", 1, 0), ("not", b))), a),
             ("m", "b", ("c", "d"), "a", "b", "a")),
        ]:
            self.assertEqual(names_in(expression), names)
            self.assertIs(names_in(expression).__class__, tuple)

    def test_each_as_often_as_it_stands(self):
        same = ("name", "a")
        self.assertEqual(names_in(("join", (same, same, same))), ("a", "a", "a"))
        same = ("plus", same, ("port", "a", "a"))
        self.assertEqual(names_in(("times", same, same)), ("a", ("a", "a"), "a", ("a", "a")))

    def test_they_go_from_the_left_by_a_fixed_rule(self):
        def simply(expression):
            if expression[0] == "name":
                return [expression[1]]
            if expression[0] == "port":
                return [expression[1:]]
            found = [expression[1]] if expression[0] == "read" else []
            for part in expression[1] if expression[0] == "join" else expression[1:]:
                if isinstance(part, tuple):
                    found.extend(simply(part))
            return found

        rule = Rule(12)
        for kind in INNER:
            for size in range(2, 40):
                expression = around(rule, kind, size)
                self.assertEqual(list(names_in(expression)), simply(expression))

    def test_a_name_may_be_any_name(self):
        for name in NAMES:
            self.assertEqual(names_in(("not", ("name", name))), (name,))
        self.assertEqual(names_in(("not", NIX)), ("nix",))

    def test_deep_ones(self):
        for kind in INNER:
            for expression in deep(kind, 280):
                self.assertEqual(names_in(expression).count("a") + names_in(expression).count("m"), len(names_in(expression)))


if __name__ == "__main__":
    unittest.main()
