"""Designs by hand that several tests ask for."""

from everycycle.texts import design_of

# A counter with a memory behind it, used twice, one use within a use.
NESTED = design_of("""
module cell
  input step: 2
  reg count: 3 = 5
  wire sum: 3 = count + {1#0, step}
  next count = sum
  output low: 1 = count[0]
end
module pair
  input add: 2
  memory m: 2 by 1
  use one: cell(step = add)
  wire seen: 2 = m[one.low]
  use two: cell(step = seen)
  write m[two.low] = add when one.low
  output both: 2 = {one.low, two.low}
end
module top
  input x: 2
  input on: 1
  reg r: 1 = 1
  next r = ~r & on
  use p: pair(add = if r then x else 2#0)
  output w: 1 = p.both == 2#3
end
""")

# Two inputs, a reg without a next, one that is led ahead of what reads it, and a memory with three writes.
WRITES = design_of("""
module writes
  input a: 2
  input b: 4
  memory m: 4 by 2
  reg old: 4 = 9
  reg last: 4 = 3
  next last = b
  write m[a] = b when 1#1
  wire now: 4 = m[a]
  wire was: 4 = last
  write m[2#1] = old when a[0]
  write m[a + 2#1] = now + 4#1 when a[1]
  output out: 4 = m[2#3] ^ was
end
""")

PLAIN = design_of("module plain\noutput w: 1 = 1#1\nend\n")
EMPTY = design_of("module empty\nend\n")
