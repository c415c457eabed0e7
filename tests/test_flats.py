"""[16], [17], [18], [19]: flat designs."""

import unittest

from everycycle.cycles import cycle, is_state, reset_of, run, run_from, state_behind
from everycycle.designs import check, names_in
from everycycle.errors import BadRow
from everycycle.flats import deep_state, flat, flat_state
from everycycle.texts import design_of
from tests.anything import anything
from tests.asking import Asking
from tests.circuits import EMPTY, NESTED, PLAIN, WRITES
from tests.fixed import Rule
from tests.meaning import small_design
from tests.plainly import inputs_of, some_state
from tests.test_cycles import listed
from tests.test_runs import some_rows


def n(name):
    return ("name", name)


def num(width, value):
    return ("number", width, value)


def equal(a, b):
    return ("equal", a, b)


def if_(c, a, b):
    return ("if", c, a, b)


def at(a, k):
    return ("slice", a, k, k)


def and_(a, b):
    return ("and", a, b)


def place_by_place(names, bits, address):
    """The read of a memory of few places, written out."""
    if bits == 1:
        return if_(equal(address, num(1, 0)), n(names[0]), n(names[1]))
    w = [n(name) for name in names]
    return if_(equal(address, num(2, 0)), w[0], if_(equal(address, num(2, 1)), w[1], if_(
        equal(address, num(2, 2)), w[2], w[3])))


class ByHand(unittest.TestCase):
    def test_uses_in_uses(self):
        def cell(p, step):
            return (
                ("wire", p + "step", 2, step), ("reg", p + "count", 3, 5),
                ("wire", p + "sum", 3, ("plus", n(p + "count"), ("join", (num(1, 0), n(p + "step"))))),
                ("next", p + "count", n(p + "sum")), ("wire", p + "low", 1, at(n(p + "count"), 0)),
            )

        def written(k):
            there = and_(n("p.one.low"), equal(n("p.two.low"), num(1, k)))
            return ("next", f"p.m.{k}", if_(there, n("p.add"), n(f"p.m.{k}")))

        self.assertEqual(flat(NESTED), (("module", "top", (
            ("input", "x", 2), ("input", "on", 1), ("reg", "r", 1, 1),
            ("next", "r", and_(("not", n("r")), n("on"))),
            ("wire", "p.add", 2, if_(n("r"), n("x"), num(2, 0))),
            ("reg", "p.m.0", 2, 0), ("reg", "p.m.1", 2, 0),
            *cell("p.one.", n("p.add")),
            ("wire", "p.seen", 2, place_by_place(("p.m.0", "p.m.1"), 1, n("p.one.low"))),
            *cell("p.two.", n("p.seen")),
            ("wire", "p.both", 2, ("join", (n("p.one.low"), n("p.two.low")))),
            written(0), written(1),
            ("output", "w", 1, equal(n("p.both"), num(2, 3))),
        )),))

    def test_several_writes(self):
        m = [f"m.{k}" for k in range(4)]

        def written(k):
            first = if_(and_(num(1, 1), equal(n("a"), num(2, k))), n("b"), n(m[k]))
            second = if_(and_(at(n("a"), 0), equal(num(2, 1), num(2, k))), n("old"), first)
            address = ("plus", n("a"), num(2, 1))
            third = if_(and_(at(n("a"), 1), equal(address, num(2, k))), ("plus", n("now"), num(4, 1)), second)
            return ("next", m[k], third)

        self.assertEqual(flat(WRITES), (("module", "writes", (
            ("input", "a", 2), ("input", "b", 4), *[("reg", name, 4, 0) for name in m],
            ("reg", "old", 4, 9), ("reg", "last", 4, 3), ("next", "last", n("b")),
            ("wire", "now", 4, place_by_place(m, 2, n("a"))), ("wire", "was", 4, n("last")),
            ("output", "out", 4, ("xor", place_by_place(m, 2, num(2, 3)), n("was"))),
            *[written(k) for k in range(4)],
        )),))

    def test_reads_within_reads_and_no_write(self):
        design = design_of("""
module m
  input a: 1
  memory f: 1 by 1
  memory g: 2 by 3
  memory none: 5 by 1
  write f[f[a]] = f[f[a]] when g[{1#0, 2#3}][1]
  output o: 2 = g[{f[a], a, f[1#1]}]
end
""")
        fa = place_by_place(("f.0", "f.1"), 1, n("a"))
        ffa = place_by_place(("f.0", "f.1"), 1, fa)
        f1 = place_by_place(("f.0", "f.1"), 1, num(1, 1))

        def g(address):
            whole = n("g.7")
            for k in (6, 5, 4, 3, 2, 1, 0):
                whole = if_(equal(address, num(3, k)), n(f"g.{k}"), whole)
            return whole

        when = at(g(("join", (num(1, 0), num(2, 3)))), 1)
        self.assertEqual(flat(design), (("module", "m", (
            ("input", "a", 1), ("reg", "f.0", 1, 0), ("reg", "f.1", 1, 0), *[("reg", f"g.{k}", 2, 0) for k in range(8)],
            ("reg", "none.0", 5, 0), ("reg", "none.1", 5, 0),
            ("output", "o", 2, g(("join", (fa, n("a"), f1)))),
            ("next", "f.0", if_(and_(when, equal(fa, num(1, 0))), ffa, n("f.0"))),
            ("next", "f.1", if_(and_(when, equal(fa, num(1, 1))), ffa, n("f.1"))),
        )),))

    def test_memories_of_inner_modules_stand_ahead_of_what_comes_behind_the_use(self):
        design = design_of("""
module low
  memory m: 1 by 1
  memory k: 1 by 1
  write k[1#0] = 1#1 when 1#1
  write m[1#1] = 1#0 when 1#1
  output o: 1 = 1#0
end
module top
  memory t: 1 by 1
  write t[1#0] = 1#0 when 1#1
  use u: low()
  wire behind: 1 = u.o
end
""")
        def nexts(name, k, value):
            return tuple(("next", f"{name}.{j}", if_(and_(num(1, 1), equal(num(1, k), num(1, j))), num(1, value), n(
                f"{name}.{j}"))) for j in (0, 1))

        self.assertEqual(flat(design), (("module", "top", (
            ("reg", "t.0", 1, 0), ("reg", "t.1", 1, 0),
            ("reg", "u.m.0", 1, 0), ("reg", "u.m.1", 1, 0), ("reg", "u.k.0", 1, 0), ("reg", "u.k.1", 1, 0),
            ("wire", "u.o", 1, num(1, 0)), *nexts("u.m", 1, 0), *nexts("u.k", 0, 1),
            ("wire", "behind", 1, n("u.o")), *nexts("t", 0, 0),
        )),))

    def test_designs_that_are_flat_stay(self):
        for design in (EMPTY, PLAIN):
            self.assertEqual(flat(design), design)
        for design in (NESTED, WRITES):
            self.assertEqual(flat(flat(design)), flat(design))

    def test_other_modules_go(self):
        self.assertEqual(flat(NESTED + EMPTY), EMPTY)
        self.assertEqual(flat_state(NESTED + PLAIN, ()), ())


class States(Asking, unittest.TestCase):
    def test_by_hand(self):
        state, row = (1, ((2, 3), (4,), (6,))), (1, 2, 3, 4, 6)
        self.assertEqual(flat_state(NESTED, state), row)
        self.assertEqual(flat_state(NESTED, listed(state)), row)
        self.assertEqual(deep_state(NESTED, row), state)
        self.assertEqual(deep_state(NESTED, list(row)), state)
        self.assertEqual(flat_state(WRITES, ((1, 2, 3, 4), 5, 6)), (1, 2, 3, 4, 5, 6))
        self.assertEqual(deep_state(WRITES, (1, 2, 3, 4, 5, 6)), ((1, 2, 3, 4), 5, 6))
        self.assertEqual((flat_state(EMPTY, ()), deep_state(EMPTY, [])), ((), ()))

    def test_bad_rows(self):
        for state in ((), (1,), (1, 2, 3, 4, 6), (2, ((2, 3), (4,), (6,))), (1, ((2, 4), (4,), (6,))), (1, ((2, 3), 4, 6))):
            self.assertFails(BadRow, {"row": state}, flat_state, NESTED, state)
        for row in ((), (1,), (1, 2, 3, 4), (1, 2, 3, 4, 6, 0), (2, 2, 3, 4, 6), (1, 4, 3, 4, 6), (1, 2, 3, 8, 6),
                    (1, 2, 3, 4, -1), (1, 2, 3, 4, True), (1, ((2, 3), (4,), (6,))), [1, 2, 3, 4, None], (1, 2, 3, 4, "6")):
            self.assertFails(BadRow, {"row": row}, deep_state, NESTED, row)

    def test_anything(self):
        for value in anything():
            for design, many in ((NESTED, 5), (EMPTY, 0)):
                right = isinstance(value, (tuple, list)) and len(value) == 0 == many
                if right:
                    self.assertEqual((flat_state(design, value), deep_state(design, value)), ((), ()))
                else:
                    self.assertFails(BadRow, {"row": value}, flat_state, design, value)
                    self.assertFails(BadRow, {"row": value}, deep_state, design, value)

    def test_all_states_of_a_small_design(self):
        design = design_of("""
module low
  reg a: 1 = 1
  memory m: 1 by 1
  reg b: 2 = 0
end
module top
  use u: low()
  reg c: 1 = 0
  use v: low()
end
""")
        inner = [(a, (x, y), b) for a in (0, 1) for x in (0, 1) for y in (0, 1) for b in range(4)]
        seen = set()
        for u in inner:
            for c in (0, 1):
                for v in inner:
                    state = (u, c, v)
                    row = flat_state(design, state)
                    self.assertIs(is_state(flat(design), "top", row), True)
                    self.assertEqual(deep_state(design, row), state)
                    seen.add(row)
        self.assertEqual(len(seen), 2 * 32 * 32)


class SameSignals(unittest.TestCase):
    """Fact E."""

    def test_over_many_designs(self):
        deepest, greatest, cycles = 0, 0, 0
        for number in range(260):
            design = small_design(number)
            top = design[-1][1]
            whole = flat(design)
            rule = Rule(number + 6000)
            check(whole)
            self.assertEqual(len(whole), 1)
            self.assertEqual({item[0] for item in whole[0][2]} - {"input", "reg", "wire", "output", "next"}, set())
            self.assertTrue(all(isinstance(name, str) for item in whole[0][2] if item[0] in ("wire", "output", "next")
                                for name in names_in(item[-1])))
            self.assertEqual(flat_state(design, reset_of(design, top)), reset_of(whole, top))
            for _ in range(3):
                state, inputs = some_state(design, top, rule), inputs_of(design, top, rule)
                row = flat_state(design, state)
                self.assertEqual(deep_state(design, row), state)
                signals, behind = cycle(design, top, state, inputs)
                self.assertEqual(cycle(whole, top, row, inputs), (signals, flat_state(design, behind)), number)
                deepest = max([deepest, *[name.count(".") for name, _ in signals]])
                cycles += 1
            greatest = max(greatest, len(whole[0][2]))
        self.assertGreaterEqual(deepest, 3)
        self.assertGreater(greatest, 100)
        self.assertEqual(cycles, 780)

    def test_whole_runs(self):
        for number in range(120):
            design = small_design(number)
            whole, top, rule = flat(design), design[-1][1], Rule(number + 7000)
            rows = some_rows(design, rule, rule.pick(7))
            state = some_state(design, top, rule)
            one, other = run(design, rows), run(whole, rows)
            self.assertEqual([(flat_state(design, place), signals) for place, signals in one], list(other))
            one, other = run_from(design, state, rows), run_from(whole, flat_state(design, state), rows)
            self.assertEqual([(flat_state(design, place), signals) for place, signals in one], list(other))
            self.assertEqual(flat_state(design, state_behind(design, state, rows)),
                             state_behind(whole, flat_state(design, state), rows))


if __name__ == "__main__":
    unittest.main()
