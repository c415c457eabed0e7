"""Designs with wishes, by hand and by a fixed rule, and searches over all their states by the plain meaning."""

from itertools import product

from everycycle.cycles import reset_of
from everycycle.texts import design_of
from tests.narrow import narrow
from tests.plainly import plain_cycle

# A counter that comes to a number, one that never does, and which of both by a parameter.
COUNTER = """
module counter
  input on: 1
  reg count: 3 = {reset}
  wire more: 3 = count + {{2#0, on}}
  next count = if count == 3#{last} then 3#0 else more
  output good: 1 = count != 3#{bad}
  output seen: 3 = count
end
"""
# A lock that a row of keys opens, 2, 0, 3, 1; a wrong key begins anew, and a cycle may wait.
KEYS = design_of("""
module keys
  input key: 2
  input hold: 1
  reg at: 3 = 0
  wire due: 2 = if at == 3#0 then 2#2 else if at == 3#1 then 2#0 else if at == 3#2 then 2#3 else 2#1
  next at = if hold then at else if key == due & at < 3#4 then at + 3#1 else 3#0
  output shut: 1 = at != 3#4
  output low: 1 = at <= 3#4
end
""")
# A queue of two words of one bit in a memory, used by a top; it does not forget how many it holds.
QUEUE = design_of("""
module queue
  input put: 1
  input take: 1
  input word: 1
  memory m: 1 by 1
  reg head: 1 = 0
  reg tail: 1 = 0
  reg many: 2 = 0
  wire in: 1 = put & many < 2#2
  wire out: 1 = take & many != 2#0
  write m[tail] = word when in
  next tail = tail ^ in
  next head = head ^ out
  next many = many + {1#0, in} - {1#0, out}
  output held: 2 = many
  output first: 1 = m[head]
  output even: 1 = (head ^ tail) == many[0]
end
module top
  input put: 1
  input take: 1
  use q: queue(put = put, take = take, word = ~put | take)
  wire none: 1 = q.held == 2#0
  output even: 1 = q.even
  output few: 1 = q.held != 2#2
  output fits: 1 = q.held != 2#3
  output zeros: 1 = ~(q.first & q.held == 2#1)
  output held: 2 = q.held
end
""")
# Inputs of several bits; the wish falls if a is 5 where b was 3 the cycle ahead, and bit 2 of a is 1 in the one before.
WORDS = design_of("""
module words
  input a: 3
  input b: 2
  reg was: 2 = 0
  reg high: 2 = 0
  next was = b
  next high = {high[0], a[2]}
  wire sum: 3 = a + {1#0, was}
  output w: 1 = ~(a == 3#5 & was == 2#3 & high[1])
  output v: 1 = sum != 3#7
  output two: 2 = was
end
""")


def counter_design(reset, last, bad):
    return design_of(COUNTER.format(reset=reset, last=last, bad=bad))


def top_items(design):
    return design[-1][2]


def input_rows(design):
    """All rows of words of the inputs of the top."""
    return list(product(*[range(2 ** item[2]) for item in top_items(design) if item[0] == "input"]))


def wishes_of(design):
    """The names of the outputs of one bit of the top."""
    return [item[1] for item in top_items(design) if item[0] == "output" and item[2] == 1]


class Walk:
    """The cycles of the top of a design by the plain meaning, each worked once."""

    def __init__(self, design):
        self.design = design
        self.rows = input_rows(design)
        self.reset = reset_of(design, design[-1][1])
        self.known = {}

    def cycle(self, state, row):
        """The pair (words of signals by their names, next state)."""
        key = (state, tuple(row))
        if key not in self.known:
            signals, behind = plain_cycle(self.design, self.design[-1][1], state, row)
            self.known[key] = (dict(signals), behind)
        return self.known[key]

    def signals(self, rows):
        """The words of signals in each cycle."""
        told, state = [], self.reset
        for row in rows:
            words, state = self.cycle(state, row)
            told.append(words)
        return told

    def layers(self):
        """Rows of states: those that 0, 1, 2 .. cycles lead to at the least."""
        layer, seen = [self.reset], {self.reset}
        while layer:
            yield layer
            behind = []
            for state in layer:
                for row in self.rows:
                    new = self.cycle(state, row)[1]
                    if new not in seen:
                        seen.add(new)
                        behind.append(new)
            layer = behind

    def least(self, is_there):
        """The least number of cycles to one with whose signals is_there tells True; None if there is none."""
        for n, layer in enumerate(self.layers(), 1):
            if any(is_there(self.cycle(state, row)[0]) for state in layer for row in self.rows):
                return n
        return None

    def least_fall(self, name):
        return self.least(lambda words: words[name] == 0)

    def falls_last(self, name, rows):
        """Whether an output falls with these rows in the last cycle alone."""
        words = [found[name] for found in self.signals(rows)]
        return words[-1:] == [0] and words.count(0) == 1


def wish_design(rule, uses=2, memory=True):
    """A design of a few narrow modules with uses, perhaps with a memory, whose top has outputs of one bit."""
    inner = [("input", "a", 1 + rule.pick(2)), ("reg", "r", 1 + rule.pick(2), rule.pick(2))]
    names = [item[1:3] for item in inner]
    inner.append(("output", "o", 1 + rule.pick(2), narrow(rule, names, 1, 1)))
    width = inner[-1][2]
    inner[-1] = ("output", "o", width, narrow(rule, names, width, 4))
    inner.append(("next", "r", (rule.one_of(("plus", "xor")), ("name", "r"), narrow(rule, names, inner[1][2], 5))))
    items = [("input", "x", 1)]
    if rule.pick(2):
        items.append(("input", "y", 1 + rule.pick(2)))
    items.append(("reg", "s", 2 + rule.pick(2), rule.pick(4)))
    names = [item[1:3] for item in items]
    if memory and rule.pick(2):
        items.append(("memory", "m", 1, 1))
        items.append(("wire", "v", 1, ("read", "m", narrow(rule, names, 1, 3))))
        names.append(("v", 1))
    for n in range(rule.pick(uses + 1)):
        items.append(("use", f"u{n}", "cell", (("a", narrow(rule, names, inner[0][2], 4)),)))
        items.append(("wire", f"p{n}", width, ("port", f"u{n}", "o")))
        names.append((f"p{n}", width))
    if ("v", 1) in names:
        items.append(("write", "m", narrow(rule, names, 1, 3), narrow(rule, names, 1, 2), narrow(rule, names, 1, 4)))
    reg = [item for item in items if item[0] == "reg"][0]
    items.append(("next", "s", (rule.one_of(("plus", "xor")), ("name", "s"), narrow(rule, names, reg[2], 6))))
    for name in ("w", "z"):
        parts = [known for known in names if known[0] != "x" and rule.pick(3)] or names[:1]
        whole = ("name", parts[0][0])
        if len(parts) > 1:
            whole = ("join", tuple(("name", known) for known, _ in parts))
        wide = sum(wide for _, wide in parts)
        items.append(("output", name, 1, ("not", ("equal", whole, ("number", wide, rule.pick(2 ** wide))))))
    items.append(("output", "two", 2, narrow(rule, names, 2, 4)))
    return (("module", "cell", tuple(inner)), ("module", "top", tuple(items)))
