"""Which designs have a meaning: check of [8], and Fact B of [9]."""

import unittest

from everycycle.designs import check, names_in
from everycycle.errors import BadNumber, BadWidth, NoName, TakenName, Unlike
from everycycle.texts import design_of, design_text
from tests.asking import Asking
from tests.fixed import TWO_SIDED
from tests.meaning import design_of_modules, meant

A, C, R, W, Y, AD, WIDE = [("name", name) for name in ("a", "c", "r", "w", "y", "ad", "wide")]
AHEAD = ("module", "m", (("input", "p", 8), ("input", "q", 1), ("reg", "rr", 8, 0), ("memory", "me", 8, 1),
                         ("wire", "hid", 8, ("name", "p")), ("output", "o", 8, ("name", "p")),
                         ("output", "s", 1, ("name", "q"))))
BASE = (("input", "a", 8), ("input", "c", 1), ("input", "ad", 3), ("input", "wide", 64), ("reg", "r", 8, 255),
        ("memory", "mm", 8, 3), ("wire", "w", 8, A), ("output", "y", 8, W), ("use", "u", "m", (("p", A), ("q", C))))


def told(*items):
    """What check tells of a design with these items behind those of the base."""
    return check((AHEAD, ("module", "top", BASE + items)))


# Wrong expressions: name is that of the item, which a BadWidth tells.
def wrong_ones(name):
    found = [
        (("name", "nope"), NoName, {"name": "nope"}), (("name", "mm"), NoName, {"name": "mm"}),
        (("name", "u"), NoName, {"name": "u"}), (("name", "m"), NoName, {"name": "m"}),
        (("name", "top"), NoName, {"name": "top"}), (("name", "o"), NoName, {"name": "o"}),
        (("name", "later"), NoName, {"name": "later"}), (("name", "p"), NoName, {"name": "p"}),
        (("port", "nope", "o"), NoName, {"name": "nope"}), (("port", "nope", "nix"), NoName, {"name": "nope"}),
        (("port", "a", "o"), NoName, {"name": "a"}), (("port", "m", "o"), NoName, {"name": "m"}),
        (("port", "mm", "o"), NoName, {"name": "mm"}), (("port", "later", "o"), NoName, {"name": "later"}),
        (("port", "u", "nix"), NoName, {"name": "nix"}), (("port", "u", "p"), NoName, {"name": "p"}),
        (("port", "u", "hid"), NoName, {"name": "hid"}), (("port", "u", "rr"), NoName, {"name": "rr"}),
        (("port", "u", "me"), NoName, {"name": "me"}), (("port", "u", "u"), NoName, {"name": "u"}),
        (("read", "nope", AD), NoName, {"name": "nope"}), (("read", "a", AD), NoName, {"name": "a"}),
        (("read", "r", AD), NoName, {"name": "r"}), (("read", "u", AD), NoName, {"name": "u"}),
        (("read", "me", C), NoName, {"name": "me"}), (("read", "later", C), NoName, {"name": "later"}),
        (("number", 0, 0), BadNumber, {"what": "width", "number": 0}),
        (("number", 65, 0), BadNumber, {"what": "width", "number": 65}),
        (("number", 10 ** 19, 0), BadNumber, {"what": "width", "number": 10 ** 19}),
        (("number", 8, 256), BadNumber, {"what": "value", "number": 256}),
        (("number", 1, 2), BadNumber, {"what": "value", "number": 2}),
        (("number", 64, 2 ** 64), BadNumber, {"what": "value", "number": 2 ** 64}),
        (("read", "mm", A), BadWidth, {"name": name, "wanted": 3, "told": 8}),
        (("read", "mm", C), BadWidth, {"name": name, "wanted": 3, "told": 1}),
        (("if", A, A, A), BadWidth, {"name": name, "wanted": 1, "told": 8}),
        (("if", C, A, C), BadWidth, {"name": name, "wanted": 8, "told": 1}),
        (("if", C, C, A), BadWidth, {"name": name, "wanted": 1, "told": 8}),
        (("slice", A, 8, 0), BadNumber, {"what": "high", "number": 8}),
        (("slice", A, 8, 8), BadNumber, {"what": "high", "number": 8}),
        (("slice", C, 1, 0), BadNumber, {"what": "high", "number": 1}),
        (("slice", A, 3, 4), BadNumber, {"what": "low", "number": 4}),
        (("slice", A, 0, 100), BadNumber, {"what": "low", "number": 100}),
        (("left", A, 65), BadNumber, {"what": "shift", "number": 65}),
        (("right", A, 65), BadNumber, {"what": "shift", "number": 65}),
        (("right", A, 10 ** 19), BadNumber, {"what": "shift", "number": 10 ** 19}),
        (("join", (WIDE, C)), BadNumber, {"what": "join", "number": 65}),
        (("join", (C, WIDE, WIDE)), BadNumber, {"what": "join", "number": 129}),
    ]
    for kind in TWO_SIDED:
        found.append(((kind, A, C), BadWidth, {"name": name, "wanted": 8, "told": 1}))
        found.append(((kind, C, A), BadWidth, {"name": name, "wanted": 1, "told": 8}))
        found.append(((kind, C, ("equal", A, C)), BadWidth, {"name": name, "wanted": 8, "told": 1}))
    return found


# Each place of each kind of expression; what stands behind the place is wrong, too, but counts less.
NIX = ("name", "nix")
PLACES = [lambda e: e]
for one in TWO_SIDED:
    PLACES.extend([lambda e, k=one: (k, e, NIX), lambda e, k=one: (k, A, e)])
for one in ("not", "minus"):
    PLACES.append(lambda e, k=one: (k, e))
for one in ("left", "right"):
    PLACES.append(lambda e, k=one: (k, e, 99))
PLACES.extend([
    lambda e: ("slice", e, 99, 100), lambda e: ("read", "mm", e), lambda e: ("if", e, NIX, NIX),
    lambda e: ("if", C, e, NIX), lambda e: ("if", C, A, e), lambda e: ("join", (e, NIX)),
    lambda e: ("join", (A, e)), lambda e: ("join", (WIDE, e, NIX)), lambda e: ("join", (WIDE, WIDE, e)),
])
# Each place of each kind of item, with the name that a BadWidth tells.
ITEM_PLACES = [
    ("x", lambda e: ("wire", "x", 8, e)), ("x", lambda e: ("output", "x", 8, e)), ("r", lambda e: ("next", "r", e)),
    ("mm", lambda e: ("write", "mm", e, NIX, NIX)), ("mm", lambda e: ("write", "mm", C, e, NIX)),
    ("mm", lambda e: ("write", "mm", C, AD, e)), ("x", lambda e: ("use", "x", "m", (("p", e), ("q", NIX)))),
    ("x", lambda e: ("use", "x", "m", (("p", A), ("q", e)))),
]


class Checking(unittest.TestCase, Asking):
    def fails(self, items, kind, **fields):
        self.assertFails(kind, fields, told, *items)


class LetBy(unittest.TestCase):
    def test_the_base(self):
        self.assertIsNone(told())
        self.assertIsNone(check((AHEAD,)))
        self.assertIsNone(check((("module", "m", ()),)))
        self.assertIsNone(check((("module", "m", ()), ("module", "n", (("use", "u", "m", ()),)))))

    def test_each_kind_of_expression(self):
        for expression, width in [
            (("number", 8, 255), 8), (A, 8), (R, 8), (W, 8), (Y, 8), (("port", "u", "o"), 8), (("port", "u", "s"), 1),
            (("read", "mm", AD), 8), (("not", A), 8), (("minus", C), 1), (("left", AD, 64), 3), (("right", AD, 0), 3),
            (("slice", A, 7, 0), 8), (("slice", A, 7, 7), 1), (("slice", A, 6, 2), 5), (("if", C, AD, AD), 3),
            (("join", (A, C)), 9), (("join", (A, A, C, AD)), 20),
            (("equal", WIDE, WIDE), 1), (("below", A, R), 1), (("plus", A, R), 8), (("times", AD, AD), 3),
            (("and", A, R), 8), (("or", A, R), 8), (("xor", C, C), 1),
        ]:
            self.assertIsNone(told(("wire", "x", width, expression)))
            self.assertIsNone(told(("output", "x", width, expression)))
            self.assertIsNone(told(("reg", "x", width, 0), ("next", "x", expression)))

    def test_the_greatest_and_the_least_numbers(self):
        top = 2 ** 64 - 1
        for items in [
            [("input", "x", 1)], [("input", "x", 64)], [("reg", "x", 1, 0)], [("reg", "x", 1, 1)],
            [("reg", "x", 64, top)], [("memory", "x", 1, 1)], [("memory", "x", 64, 6)], [("wire", "x", 1, C)],
            [("wire", "x", 64, ("number", 64, top))], [("wire", "x", 1, ("number", 1, 1))],
            [("wire", "x", 64, ("join", (("number", 63, 0), C)))], [("wire", "x", 64, ("slice", WIDE, 63, 0))],
            [("wire", "x", 1, ("slice", C, 0, 0))], [("wire", "x", 8, ("left", A, 64))],
            [("memory", "x", 8, 6), ("wire", "z", 8, ("read", "x", ("number", 6, 63)))],
        ]:
            self.assertIsNone(told(*items), items)

    def test_names_that_may_stand(self):
        self.assertIsNone(told(("input", "m", 1), ("reg", "top", 1, 0), ("wire", "p", 8, A), ("wire", "o", 8, A)))
        self.assertIsNone(told(("use", "m", "m", (("p", A), ("q", C))), ("wire", "x", 8, ("port", "m", "o"))))
        self.assertIsNone(told(("next", "r", A), ("reg", "r2", 8, 0), ("next", "r2", R)))
        self.assertIsNone(told(("write", "mm", C, AD, A), ("write", "mm", C, AD, A)))
        self.assertIsNone(told(("next", "r", ("plus", R, ("read", "mm", AD))), ("wire", "x", 8, R)))

    def test_many_by_a_fixed_rule(self):
        for number in range(150):
            design = design_of_modules(meant(number, 1 + number % 15))
            self.assertIsNone(check(design), number)
            self.assertIsNone(check(design_of(design_text(design))))

    def test_fact_b_each_expression_asks_for_what_stands_ahead(self):
        for number in range(150):
            outputs = {}
            for _, module, items in design_of_modules(meant(number, 8)):
                known = []
                for item in items:
                    for expression in expressions_in(item):
                        for name in names_in(expression):
                            self.assertIn(name, known)
                    if item[0] == "use":
                        known.extend([(item[1], port) for port in outputs[item[2]]])
                    elif item[0] not in ("next", "write"):
                        known.append(item[1])
                outputs[module] = [item[1] for item in items if item[0] == "output"]


def expressions_in(item):
    if item[0] in ("wire", "output"):
        return [item[3]]
    if item[0] == "next":
        return [item[2]]
    if item[0] == "write":
        return list(item[2:])
    if item[0] == "use":
        return [expression for _, expression in item[3]]
    return []


class ErrorsOfExpressions(Checking):
    def test_each_error_in_each_item_and_each_expression(self):
        for name, item in ITEM_PLACES:
            for expression, kind, fields in wrong_ones(name):
                for place in PLACES:
                    self.fails([item(place(expression)), ("input", "later", 8)], kind, **fields)

    def test_one_part_within_another_deep(self):
        for expression, kind, fields in wrong_ones("x"):
            for place in PLACES:
                for other in PLACES:
                    self.fails([("wire", "x", 8, place(other(expression)))], kind, **fields)

    def test_the_width_of_the_whole(self):
        for wide, width in [(A, 8), (C, 1), (AD, 3), (("equal", A, A), 1), (("join", (A, C)), 9), (("read", "mm", AD), 8),
                            (("slice", A, 6, 2), 5), (("if", C, AD, AD), 3), (("port", "u", "s"), 1),
                            (("number", 17, 0), 17), (("left", AD, 9), 3), (("minus", AD), 3), (("times", AD, AD), 3)]:
            self.fails([("wire", "x", 64, wide)], BadWidth, name="x", wanted=64, told=width)
            self.fails([("output", "x", 63, wide)], BadWidth, name="x", wanted=63, told=width)
            self.fails([("reg", "x", 62, 0), ("next", "x", wide)], BadWidth, name="x", wanted=62, told=width)
            if width != 8:
                self.fails([("write", "mm", C, AD, wide)], BadWidth, name="mm", wanted=8, told=width)
                self.fails([("use", "x", "m", (("p", wide), ("q", C)))], BadWidth, name="x", wanted=8, told=width)
            if width != 3:
                self.fails([("write", "mm", C, wide, A)], BadWidth, name="mm", wanted=3, told=width)
            if width != 1:
                self.fails([("write", "mm", wide, AD, A)], BadWidth, name="mm", wanted=1, told=width)
                self.fails([("use", "x", "m", (("p", A), ("q", wide)))], BadWidth, name="x", wanted=1, told=width)

    def test_of_two_wrong_things_the_first_one_counts(self):
        bad = ("slice", A, 9, 0)
        for expression, kind, fields in [
            (("number", 65, 2 ** 80), BadNumber, {"what": "width", "number": 65}),
            (("number", 0, 1), BadNumber, {"what": "width", "number": 0}),
            (("read", "nope", NIX), NoName, {"name": "nope"}),
            (("read", "nope", A), NoName, {"name": "nope"}),
            (("read", "mm", NIX), NoName, {"name": "nix"}),
            (("read", "mm", bad), BadNumber, {"what": "high", "number": 9}),
            (("port", "nope", "nix"), NoName, {"name": "nope"}),
            (("if", NIX, bad, bad), NoName, {"name": "nix"}),
            (("if", bad, NIX, NIX), BadNumber, {"what": "high", "number": 9}),
            (("if", A, NIX, NIX), BadWidth, {"name": "x", "wanted": 1, "told": 8}),
            (("if", AD, C, A), BadWidth, {"name": "x", "wanted": 1, "told": 3}),
            (("if", C, bad, NIX), BadNumber, {"what": "high", "number": 9}),
            (("if", C, A, bad), BadNumber, {"what": "high", "number": 9}),
            (("if", ("if", A, NIX, NIX), bad, bad), BadWidth, {"name": "x", "wanted": 1, "told": 8}),
            (("join", (bad, NIX)), BadNumber, {"what": "high", "number": 9}),
            (("join", (WIDE, WIDE, NIX)), NoName, {"name": "nix"}),
            (("join", (("join", (WIDE, C)), NIX)), BadNumber, {"what": "join", "number": 65}),
            (("slice", NIX, 99, 100), NoName, {"name": "nix"}),
            (("slice", A, 8, 9), BadNumber, {"what": "high", "number": 8}),
            (("slice", ("slice", A, 3, 0), 4, 0), BadNumber, {"what": "high", "number": 4}),
            (("left", NIX, 65), NoName, {"name": "nix"}),
            (("right", ("left", A, 66), 65), BadNumber, {"what": "shift", "number": 66}),
            (("plus", ("plus", A, C), NIX), BadWidth, {"name": "x", "wanted": 8, "told": 1}),
            (("plus", ("plus", A, A), ("plus", C, AD)), BadWidth, {"name": "x", "wanted": 1, "told": 3}),
            (("plus", ("number", 65, 0), NIX), BadNumber, {"what": "width", "number": 65}),
            (("plus", NIX, ("number", 65, 0)), NoName, {"name": "nix"}),
        ]:
            self.fails([("wire", "x", 7, expression)], kind, **fields)

    def test_two_wrong_parts_of_each_kind(self):
        for first, kind, fields in wrong_ones("x"):
            for other in (NIX, ("left", A, 77)):
                for whole in [*[(sign, first, other) for sign in TWO_SIDED], ("join", (first, other)),
                              ("join", (A, first, other)), ("if", first, other, other), ("if", C, first, other)]:
                    self.fails([("wire", "x", 5, whole)], kind, **fields)


class ErrorsOfItems(Checking):
    def test_taken_names(self):
        named = [("input", "x", 8), ("reg", "x", 8, 0), ("memory", "x", 8, 1), ("wire", "x", 8, A), ("output", "x", 8, A),
                 ("use", "x", "m", (("p", A), ("q", C)))]
        for one in named:
            self.assertIsNone(told(one))
            for other in named:
                self.fails([one, other], TakenName, name="x")
                self.fails([one, ("input", "z", 1), other], TakenName, name="x")
            for taken in ("a", "r", "mm", "w", "y", "u"):
                self.fails([(one[0], taken, *one[2:])], TakenName, name=taken)

    def test_taken_names_of_modules(self):
        self.assertFails(TakenName, {"name": "m"}, check, (AHEAD, ("module", "top", ()), ("module", "m", ())))
        self.assertFails(TakenName, {"name": "m"}, check, (AHEAD, AHEAD))
        self.assertFails(TakenName, {"name": "m"}, check, (AHEAD, ("module", "m", (("input", "x", 0),))))
        bad = ("module", "n", (("input", "x", 0),))
        self.assertFails(BadNumber, {"what": "width", "number": 0}, check, (AHEAD, bad, AHEAD))

    def test_a_reg_with_two_nexts(self):
        self.fails([("next", "r", A), ("next", "r", A)], TakenName, name="r")
        self.fails([("reg", "x", 8, 0), ("next", "x", A), ("next", "r", A), ("next", "x", A)], TakenName, name="x")

    def test_nexts_of_what_is_no_reg(self):
        for name in ("nope", "a", "mm", "w", "y", "u", "m", "top", "rr", "later"):
            self.fails([("next", name, A), ("reg", "later", 8, 0)], NoName, name=name)

    def test_writes_of_what_is_no_memory(self):
        for name in ("nope", "a", "r", "w", "y", "u", "m", "me", "later"):
            self.fails([("write", name, C, AD, A), ("memory", "later", 8, 3)], NoName, name=name)

    def test_uses_of_what_is_no_module_ahead(self):
        for name in ("nope", "top", "u", "a", "later"):
            design = (AHEAD, ("module", "top", (*BASE, ("use", "x", name, ()))), ("module", "later", ()))
            self.assertFails(NoName, {"name": name}, check, design)

    def test_ports(self):
        p, q = ("p", A), ("q", C)
        for ports in [(), (p,), (q,), (q, p), (p, p), (p, q, q), (p, q, ("hid", A)), (p, ("o", C)), (p, ("nope", C)),
                      (("rr", A), q), (p, q, ("o", A)), (("o", A), p, q)]:
            self.fails([("use", "x", "m", ports)], Unlike, what="ports")
        self.assertFails(Unlike, {"what": "ports"}, check,
                         (("module", "n", ()), ("module", "k", (("input", "a", 8), ("use", "x", "n", (p,))))))

    def test_names_of_themselves_and_of_what_stands_behind(self):
        for kind in ("wire", "output"):
            self.fails([(kind, "x", 8, ("name", "x"))], NoName, name="x")
            self.fails([(kind, "x", 8, ("name", "z")), ("wire", "z", 8, A)], NoName, name="z")
        self.fails([("use", "x", "m", (("p", ("port", "x", "o")), ("q", C)))], NoName, name="x")
        self.fails([("wire", "x", 8, ("read", "z", AD)), ("memory", "z", 8, 3)], NoName, name="z")
        self.fails([("wire", "x", 8, ("port", "z", "o")), ("use", "z", "m", (("p", A), ("q", C)))], NoName, name="z")

    def test_numbers(self):
        for width in (0, 65, 10 ** 30):
            for item in [("input", "x", width), ("reg", "x", width, 0), ("memory", "x", width, 1), ("wire", "x", width, A),
                         ("output", "x", width, A)]:
                self.fails([item], BadNumber, what="width", number=width)
        for width, reset in [(1, 2), (8, 256), (8, 10 ** 30), (64, 2 ** 64)]:
            self.fails([("reg", "x", width, reset)], BadNumber, what="reset", number=reset)
        for bits in (0, 7, 10 ** 30):
            self.fails([("memory", "x", 8, bits)], BadNumber, what="bits", number=bits)

    def test_numbers_are_integers_from_0_on_and_no_bools(self):
        for number in (True, False, -1, -10 ** 30, None, "1", (1,), 1.0):
            for item, what in [
                (("input", "x", number), "width"), (("wire", "x", number, C), "width"), (("reg", "x", 8, number), "reset"),
                (("memory", "x", 8, number), "bits"), (("wire", "x", 1, ("number", number, 0)), "width"),
                (("wire", "x", 1, ("number", 1, number)), "value"), (("wire", "x", 1, ("slice", A, number, 0)), "high"),
                (("wire", "x", 1, ("slice", A, 0, number)), "low"), (("wire", "x", 8, ("left", A, number)), "shift"),
                (("wire", "x", 8, ("right", A, number)), "shift"),
            ]:
                self.fails([item], BadNumber, what=what, number=number)

    def test_of_two_wrong_things_of_an_item_the_first_one_counts(self):
        bad = ("slice", A, 9, 0)
        high = {"what": "high", "number": 9}
        nix = {"name": "nix"}
        for item, kind, fields in [
            (("input", "a", 0), TakenName, {"name": "a"}), (("reg", "a", 0, 0), TakenName, {"name": "a"}),
            (("memory", "a", 0, 0), TakenName, {"name": "a"}), (("wire", "a", 0, A), TakenName, {"name": "a"}),
            (("output", "a", 0, A), TakenName, {"name": "a"}), (("use", "a", "nope", ()), TakenName, {"name": "a"}),
            (("reg", "x", 65, 2 ** 70), BadNumber, {"what": "width", "number": 65}),
            (("reg", "a", 8, 256), TakenName, {"name": "a"}), (("memory", "a", 8, 7), TakenName, {"name": "a"}),
            (("reg", "x", 0, 1), BadNumber, {"what": "width", "number": 0}),
            (("memory", "x", 65, 7), BadNumber, {"what": "width", "number": 65}),
            (("wire", "x", 0, NIX), BadNumber, {"what": "width", "number": 0}),
            (("output", "x", 65, NIX), BadNumber, {"what": "width", "number": 65}),
            (("wire", "a", 8, NIX), TakenName, {"name": "a"}), (("output", "a", 8, NIX), TakenName, {"name": "a"}),
            (("wire", "x", 3, ("plus", A, NIX)), NoName, nix), (("output", "x", 3, ("plus", A, NIX)), NoName, nix),
            (("wire", "x", 3, ("plus", A, C)), BadWidth, {"name": "x", "wanted": 8, "told": 1}),
            (("next", "nope", NIX), NoName, {"name": "nope"}), (("next", "r", ("plus", A, NIX)), NoName, nix),
            (("next", "r", ("slice", bad, 0, 0)), BadNumber, high),
            (("write", "nope", NIX, NIX, NIX), NoName, {"name": "nope"}), (("write", "nope", A, A, C), NoName, {"name": "nope"}),
            (("write", "mm", ("plus", A, NIX), bad, bad), NoName, nix), (("write", "mm", bad, NIX, NIX), BadNumber, high),
            (("write", "mm", A, NIX, NIX), BadWidth, {"name": "mm", "wanted": 1, "told": 8}),
            (("write", "mm", A, A, C), BadWidth, {"name": "mm", "wanted": 1, "told": 8}),
            (("write", "mm", C, ("plus", A, NIX), bad), NoName, nix), (("write", "mm", C, bad, NIX), BadNumber, high),
            (("write", "mm", C, A, NIX), BadWidth, {"name": "mm", "wanted": 3, "told": 8}),
            (("write", "mm", C, A, C), BadWidth, {"name": "mm", "wanted": 3, "told": 8}),
            (("write", "mm", C, AD, ("plus", C, NIX)), NoName, nix),
            (("use", "x", "nope", (("p", NIX),)), NoName, {"name": "nope"}),
            (("use", "x", "m", (("p", NIX),)), Unlike, {"what": "ports"}),
            (("use", "x", "m", (("q", NIX), ("p", NIX))), Unlike, {"what": "ports"}),
            (("use", "x", "m", (("p", A), ("q", C), ("z", NIX))), Unlike, {"what": "ports"}),
            (("use", "x", "m", (("p", ("plus", C, NIX)), ("q", bad))), NoName, nix),
            (("use", "x", "m", (("p", C), ("q", NIX))), BadWidth, {"name": "x", "wanted": 8, "told": 1}),
            (("use", "x", "m", (("p", C), ("q", A))), BadWidth, {"name": "x", "wanted": 8, "told": 1}),
            (("use", "x", "m", (("p", A), ("q", ("plus", A, NIX)))), NoName, nix),
        ]:
            self.fails([item], kind, **fields)
        self.fails([("next", "r", A), ("next", "r", NIX)], TakenName, name="r")
        self.fails([("next", "r", A), ("next", "r", C)], TakenName, name="r")

    def test_of_two_wrong_items_the_first_one_counts(self):
        one, other = ("input", "x", 0), ("wire", "y", 8, NIX)
        self.fails([one, other], BadNumber, what="width", number=0)
        self.fails([other, one], TakenName, name="y")
        self.fails([("wire", "z", 8, NIX), one], NoName, name="nix")
        self.fails([("next", "r", C), ("input", "x", 0)], BadWidth, name="r", wanted=8, told=1)

    def test_of_two_wrong_modules_the_first_one_counts(self):
        one = ("module", "n", (("input", "x", 0),))
        other = ("module", "k", (("wire", "y", 8, NIX),))
        self.assertFails(BadNumber, {"what": "width", "number": 0}, check, (one, other))
        self.assertFails(NoName, {"name": "nix"}, check, (other, one))


if __name__ == "__main__":
    unittest.main()
