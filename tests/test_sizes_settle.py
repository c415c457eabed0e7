"""What is as large as [61], [70] and [78] let callers pass, or somewhat larger, is handled."""

import time
import unittest

from everycycle.backs import is_enough, open_bits
from everycycle.bits import machine_of
from everycycle.bounded import Broken, is_break
from everycycle.errors import NotKept
from everycycle.flats import flat
from everycycle.frames import Frames, begun, break_in, measure, settle, shut, stands, stepped, way_past
from everycycle.judge import Kept, is_kept, lessened
from everycycle.pairs import Fallen, alike, is_settled, settled
from everycycle.projects import Project, is_project_right
from everycycle.texts import design_of
from tests.fixed import Rule
from tests.test_sizes_judge import LOCK, PRODUCTS, net_machine, told_machine
from tests.walks import counter
from tests.wishes import Walk

RING = """
module ring
  input go: 2
  reg x: 10 = 1
  next x = if go[0] then {x[8:0], x[9]} else if go[1] then {x[0], x[9:1]} else x
  output w: 1 = (x & (x - 10#1)) == 10#0
end
"""
LONG_RING = """
module ring
  input go: 2
  reg x: 24 = 1
  next x = if go[0] then {x[22:0], x[23]} else if go[1] then {x[0], x[23:1]} else x
  output w: 1 = (x & (x - 24#1)) == 24#0
end
"""
LONG = """
module long
  input on: 1
  input k: 5
  reg x: 6 = 0
  reg y: 4 = 0
  wire z: 6 = x * {1#0, k} * (x + {k, 1#1}) * {2#0, y}
  next x = if x == 6#LAST then 6#0 else if z[0] ^ on then x + 6#1 else x
  next y = z[5:2] * y + {3#0, on}
  output w: 1 = x != 6#BAD
end
"""
WALK = """
module walk
  input a: 1
  input b: 1
  reg x: 5 = 0
  reg y: 5 = 0
  next x = if a & x < 5#28 & STAY then x + 5#1 else x
  next y = if ~a & b & y < 5#29 & (x * y) != 5#12 then y + 5#1 else y
  output w: 1 = WISH
end
"""
MIXED = """
module mixed
  input back: 1
  reg x: 10 = 0
  wire y: 10 = x * 10#TIMES + 10#MORE
  wire z: 10 = (y ^ y >> SHIFT) * 10#TIMES + 10#MORE
  next x = if back then 10#0 else z
  output w: 1 = x != 10#BAD
end
"""
CODES = """
module codes
  input a: 3
  input b: 3
  reg x: 5 = FIRST
  wire y: 5 = x + 5#ADD
  wire s: 5 = y * {2#0, a} + {b, 2#1}
  next x = if y == 5#29 then 5#FIRST else if b == 3#7 then s - 5#ADD else x + 5#1
  output o: 5 = y * y + {2#0, b}
end
"""
SLOW = """
module slow
  input on: 1
  reg x: 5 = 0
  reg y: 1 = 0
  next x = if on then x + 5#1 else x
  next y = y ^ (on & x == 5#31)
  output o: 6 = {y, x}
end
"""
QUICK = """
module quick
  input on: 1
  reg x: 6 = 0
  next x = if on then if x == 6#55 then 6#57 else x + 6#1 else x
  output o: 6 = x
end
"""
STACK = """
module store
  input put: 1
  input at: 2
  input word: 2
  memory m: 2 by 2
  write m[at] = if word == 2#3 then 2#1 else word when put
  output o: 2 = m[at]
  output next: 2 = m[at + 2#1]
end
module top
  input put: 1
  input take: 1
  input word: 2
  reg at: 2 = 0
  next at = if put then at + 2#1 else if take then at - 2#1 else at
  use s: store(put = put, at = at, word = word)
  output top: 2 = s.o
  output one: 1 = s.o != 2#3
  output two: 1 = s.next != 2#3
  output all: 1 = ~(s.o == 2#3 | s.next == 2#3)
  output low: 1 = at <= 2#3
  output sum: 1 = s.o + s.next != 2#3 | 1#1
  output kind: 1 = s.o != 2#2
end
""".replace("output next: 2", "output more: 2").replace("s.next", "s.more")


def codes(first, more):
    return design_of(CODES.replace("FIRST", str(first)).replace("ADD", str(more)))


def walk_text(stay, wish):
    return WALK.replace("STAY", stay).replace("WISH", wish)


def mixed_text(times, more, shift, bad):
    return MIXED.replace("TIMES", str(times)).replace("MORE", str(more)).replace("SHIFT", str(shift)).replace("BAD", str(bad))


def long_text(last, bad):
    return LONG.replace("LAST", str(last)).replace("BAD", str(bad))


class InTime(unittest.TestCase):
    def timed(self, seconds, call, *args):
        """What a call tells, which must take some seconds at most, on slow machines, too."""
        start = time.perf_counter()
        told = call(*args)
        self.assertLess(time.perf_counter() - start, seconds)
        return told

    def settles(self, machine, least, seconds=60):
        told = self.timed(seconds, settle, machine)
        if least is None:
            self.assertIs(told.__class__, Kept)
            self.assertIs(self.timed(seconds, is_kept, machine, told), True)
            self.assertIs(is_kept(machine, self.timed(seconds, lessened, machine, told)), True)
        else:
            self.assertIs(told.__class__, Broken)
            self.assertEqual(len(told.rows), least)
            self.assertIs(is_break(machine, told.rows), True)

    def test_small_ones(self):
        for number in range(40):
            machine = net_machine(Rule(number + 7400), 2, 4, 40)
            start = time.perf_counter()
            settle(machine)
            self.assertLess(time.perf_counter() - start, 2)

    def test_ten_registers(self):
        self.settles(told_machine(LOCK), 15)
        self.settles(told_machine(PRODUCTS), None)
        self.settles(told_machine(RING), None)
        self.settles(told_machine(long_text(39, 40)), None)
        self.settles(told_machine(long_text(39, 39)), 40)
        self.settles(told_machine(long_text(58, 58)), 59)

    def test_walks_and_mixed_states(self):
        """Many ways of some 60 cycles; states that no few clauses tell apart."""
        self.settles(told_machine(walk_text("(x ^ y) != 5#7", "~(x == 5#28 & y == 5#29)")), 58)
        self.settles(told_machine(walk_text("x <= y", "~(x == 5#25 & y == 5#2)")), None)
        self.settles(told_machine(mixed_text(827, 79, 5, 268)), 32)
        self.settles(told_machine(mixed_text(827, 79, 5, 9)), None)

    def test_more_registers(self):
        self.settles(told_machine(LONG_RING), None)

    def test_counters(self):
        for reset, last, broken, least in ((0, 39, 39, 40), (0, 39, 40, None), (0, 39, 63, None), (30, 20, 31, 2), (30, 20, 19, 54), (0, 63, 63, 64)):
            self.settles(counter(6, reset, last, broken, 1), least)

    def test_nets(self):
        for number in range(16):
            machine = net_machine(Rule(number + 7500), 6, 10, (390, 880)[number & 1])
            told = self.timed(60, settle, machine)
            self.assertIs(is_break(machine, told.rows) if told.__class__ is Broken else is_kept(machine, told), True)

    def test_stands_and_measure(self):
        machine = net_machine(Rule(7), 3, 6, 200)
        told, last = begun(machine), None
        while isinstance(told, Frames):
            self.assertIs(self.timed(60, stands, told), True)
            found = self.timed(60, measure, told)
            self.assertTrue(last is None or found < last)
            last, told = found, self.timed(60, stepped, told)

    def test_questions_of_200_registers(self):
        """[2]: where no less is told, 200 registers and 400 gates."""
        machine = net_machine(Rule(8), 6, 200, 400)
        rule = Rule(9)
        clauses = [tuple(sorted({(1 + rule.pick(200)) for _ in range(3)})) for _ in range(20)]
        pair = self.timed(60, break_in, machine, clauses)
        self.assertTrue(pair is None or (len(pair[0]), len(pair[1])) == (200, 6))
        self.timed(60, way_past, machine, clauses, (3, -7, 90))
        self.timed(60, break_in, machine, None)
        state = tuple(rule.pick(2) for _ in range(200))
        self.timed(60, shut, machine, clauses, state)
        self.timed(60, shut, machine, None, state)

    def test_alike(self):
        one = codes(0, 0)
        told = self.timed(60, alike, one, codes(24, 8))
        self.assertIs(told.__class__, Kept)
        self.assertIs(self.timed(60, alike, codes(3, 29), one).__class__, Kept)
        told = self.timed(60, alike, one, codes(24, 9))
        self.assertEqual((told.__class__, len(told.rows)), (Fallen, 1))
        told = self.timed(60, alike, design_of(SLOW), design_of(QUICK))
        self.assertEqual((told.__class__, len(told.rows)), (Fallen, 57))
        told = self.timed(60, alike, design_of(SLOW), design_of(QUICK.replace("if x == 6#55 then 6#57 else ", "")))
        self.assertIs(told.__class__, Kept)

    def test_open_bits(self):
        text = ("module m\ninput a: 2\nreg x: 8 = 1\nnext x = x * {6#0, a} + {a, x[5:0]}\n"
                "output w: 1 = ~(x[2] & x[0] ^ x[7] & x[6] & a[1])\nend\n")
        design = design_of(text)
        walk = Walk(design)
        told = self.timed(60, settled, design, "w")
        self.assertEqual(len(told.rows), walk.least_fall("w"))
        rows = [(3,), (0,), (1,), (2,), (0,), (3,), (1,), (1,)]
        many = 0
        for first in range(4):
            words = [signals["w"] for signals in walk.signals([(first,), *rows])]
            fall = words.index(0) + 1 if 0 in words else None
            if fall is not None and fall <= 8:
                some = tuple([(first,), *rows][:fall])
                found = self.timed(60, open_bits, design, "w", some)
                self.assertIs(self.timed(60, is_enough, design, "w", some, found.mask, found.lines), True)
                many += 1
        self.assertGreater(many, 0)
        # Eight cycles with two bits each.
        lock = design_of("module m\ninput a: 2\nreg x: 4 = 0\nnext x = if a == x[1:0] ^ x[3:2] then x + 4#1 else 4#0\n"
                         "output w: 1 = x != 4#7\nend\n".replace("a == x[1:0] ^ x[3:2]", "a == (x[1:0] ^ x[3:2])"))
        told = self.timed(60, settled, lock, "w")
        self.assertEqual(len(told.rows), 8)
        found = self.timed(60, open_bits, lock, "w", told.rows)
        self.assertEqual(found.mask, ((3,),) * 7 + ((0,),))

    def test_projects(self):
        project = Project(STACK)
        design = design_of(STACK)
        for name in ("one", "two", "all", "low", "sum"):
            self.assertIs(self.timed(60, project.wish, name).__class__, Kept)
        self.assertIs(project.wish("kind").__class__, Fallen)
        self.assertEqual([project.may_be("top", value)[0] for value in range(4)], [True, True, True, False])
        for name in project.wishes():
            self.assertIs(is_settled(design, name, project.paper(name)), True)
        self.timed(60, project.put, STACK.split("module top")[0].replace("then 2#1", "then 2#0"))
        self.assertEqual(len(project.wishes()), 5)
        with self.assertRaises(NotKept):
            self.timed(60, project.put, STACK.split("module top")[0].replace("then 2#1", "then 2#3"))
        self.assertIs(self.timed(60, is_project_right, project), True)
        self.assertLess(len(machine_of(flat(design), "all").graph.gates), 900)


if __name__ == "__main__":
    unittest.main()
