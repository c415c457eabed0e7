"""[71], [72], [73]: wishes settled for all runs, and circuits that are alike for all runs."""

import unittest

from everycycle.bits import machine_of
from everycycle.bounded import Broken, first_break
from everycycle.designs import check
from everycycle.errors import BadName, BadNumber, BadWidth, Missing, NoName, TakenName, Unlike
from everycycle.flats import flat
from everycycle.judge import Kept, is_kept
from everycycle.pairs import Fallen, alike, is_settled, pair_of, settled
from everycycle.texts import design_of, design_text
from tests.anything import Own, anything, placed
from tests.asking import Asking
from tests.circuits import EMPTY, NESTED, PLAIN
from tests.fixed import Rule
from tests.keeping import Keeping
from tests.test_backs import are_right_rows
from tests.test_lines import bent, paths
from tests.wishes import KEYS, QUEUE, WORDS, Walk, counter_design, top_items, wish_design, wishes_of


def is_plainly_settled(design, name, told):
    """Whether told is what settled describes, apart from the program's judge of runs."""
    if told.__class__ is Fallen:
        rows = told.rows
        right = rows.__class__ is tuple and all(row.__class__ is tuple for row in rows) and are_right_rows(design, rows)
        return right and Walk(design).falls_last(name, rows)
    return told.__class__ is Kept and is_kept(machine_of(flat(design), name), told)


class Settled(Asking, Keeping, unittest.TestCase):
    def test_what_it_keeps(self):
        self.assertKeeps(Fallen, "rows")

    def hold(self, design, name, walk=None):
        """settled must tell the right one of both, with the least number of cycles; tells this."""
        walk = walk or Walk(design)
        least = walk.least_fall(name)
        told = settled(design, name)
        if least is None:
            self.assertIs(told.__class__, Kept)
        else:
            self.assertIs(told.__class__, Fallen)
            self.assertEqual(len(told.rows), least)
            self.assertTrue(all(row.__class__ is tuple for row in told.rows))
            self.assertTrue(walk.falls_last(name, told.rows))
        self.assertTrue(is_plainly_settled(design, name, told))
        self.assertIs(is_settled(design, name, told), True)
        other = settled(design, name)
        self.assertEqual((other.__class__, vars(other)), (told.__class__, vars(told)))
        return least

    def test_by_hand(self):
        for design, name, least in (
            (KEYS, "shut", 5), (KEYS, "low", None), (QUEUE, "even", None), (QUEUE, "few", 3), (QUEUE, "fits", None), (QUEUE, "zeros", 2),
            (WORDS, "w", 3), (WORDS, "v", 1), (PLAIN, "w", None), (NESTED, "w", 2),
        ):
            self.assertEqual(self.hold(design, name), least, name)
        self.assertEqual(settled(KEYS, "shut").rows[:4], ((2, 0), (0, 0), (3, 0), (1, 0)))

    def test_counters(self):
        for reset, last, bad in ((0, 7, 7), (0, 6, 7), (3, 5, 2), (3, 5, 6), (6, 6, 6), (5, 4, 4), (1, 7, 0)):
            numbers, at = [], reset
            while at not in numbers:
                numbers.append(at)
                at = 0 if at == last else (at + 1) % 8
            # From last it goes on without being told to; all other steps take a cycle each, too.
            least = numbers.index(bad) + 1 if bad in numbers else None
            self.assertEqual(self.hold(counter_design(reset, last, bad), "good"), least)

    def test_against_a_search(self):
        counts = {}
        for number in range(220):
            design = wish_design(Rule(number + 9500))
            walk = Walk(design)
            for name in wishes_of(design):
                least = self.hold(design, name, walk)
                kind = None if least is None else min(least, 4)
                counts[kind] = counts.get(kind, 0) + 1
        self.assertTrue(all(counts.get(kind, 0) > 4 for kind in (None, 1, 2, 3, 4)), counts)

    def test_any_value_for_a_name(self):
        right = settled(KEYS, "low")
        for name in ("at", "key", "due", "keys", "", "Shut", "shut ", *anything()):
            self.assertFails(Missing, {"name": name}, settled, KEYS, name)
            for told in (right, None, Fallen(()), name):
                self.assertFails(Missing, {"name": name}, is_settled, KEYS, name, told)
        self.assertFails(Missing, {"name": "held"}, settled, QUEUE, "held")
        self.assertFails(Missing, {"name": "held"}, is_settled, QUEUE, "held", None)
        self.assertFails(Missing, {"name": "q.even"}, settled, QUEUE, "q.even")
        self.assertFails(Missing, {"name": "w"}, settled, EMPTY, "w")

    def test_falls_bent(self):
        rows = settled(KEYS, "shut").rows
        right = wrong = 0
        for value in (*anything(), 2, 3, 4):
            others = [value, (value,), (*rows, value), *[placed(rows, k, value) for k in range(5)]]
            others += [placed(rows, k, placed(rows[k], n, value)) for k in range(5) for n in range(2)]
            for other in others:
                told = Fallen(other)
                wanted = is_plainly_settled(KEYS, "shut", told)
                self.assertIs(is_settled(KEYS, "shut", told), wanted)
                right, wrong = right + wanted, wrong + (not wanted)
        self.assertTrue(right > 5 and wrong > 1000, (right, wrong))
        for other in (rows[:4], rows[1:], (*rows, (0, 0)), ((2, 0), *rows), (), rows[::-1], rows + rows, tuple(list(row) for row in rows),
                      [list(row) for row in rows], (*rows[:4], [0, 0])):
            self.assertIs(is_settled(KEYS, "shut", Fallen(other)), False)
        for other in (list(rows), ((0, 0), *rows), ((0, 0), (3, 1), *rows), (*rows[:2], (1, 1), *rows[2:]), (*rows[:4], (3, 1))):
            self.assertIs(is_settled(KEYS, "shut", Fallen(other)), True)
        self.assertIs(is_settled(KEYS, "low", Fallen(rows)), False)

    def test_other_kinds(self):
        rows, kept = settled(KEYS, "shut").rows, settled(KEYS, "low")
        for told in (rows, Broken(rows), Kept(rows, rows), None, Fallen, (kept,), kept.clauses, Fallen(kept.clauses), Kept((), (None,))):
            self.assertIs(is_settled(KEYS, "shut", told), False)
            self.assertIs(is_settled(KEYS, "low", told), False)
        self.assertIs(is_settled(KEYS, "shut", kept), False)
        self.assertIs(is_settled(KEYS, "low", kept), True)
        self.assertIs(is_settled(KEYS, "low", Kept(list(kept.clauses), list(kept.papers))), True)
        for name in ("even", "fits"):
            for other in ("even", "fits", "few", "zeros"):
                told = settled(QUEUE, name)
                self.assertIs(is_settled(QUEUE, other, told), is_plainly_settled(QUEUE, other, told))
                self.assertTrue(name == other or not is_settled(QUEUE, other, told))

    def test_certificates_bent(self):
        kept = settled(KEYS, "low")
        for path in list(paths((kept.clauses, kept.papers)))[1::3]:
            for value in (0, 1, -1, None, True, (), [], Own()):
                clauses, papers = bent((kept.clauses, kept.papers), path, value)
                told = Kept(clauses, papers)
                self.assertIs(is_settled(KEYS, "low", told), is_plainly_settled(KEYS, "low", told))
        for value in anything():
            for told in (value, Kept(value, kept.papers), Kept(kept.clauses, value)):
                self.assertIs(is_settled(KEYS, "low", told), False)


def outputs_of(design):
    return [item[1] for item in top_items(design) if item[0] == "output"]


def least_difference(one, other):
    """The least number of cycles to one in which the outputs of two designs differ; None if none does."""
    first, second, names = Walk(one), Walk(other), outputs_of(one)
    layer, seen, n = [(first.reset, second.reset)], {(first.reset, second.reset)}, 0
    while layer:
        n, behind = n + 1, []
        for a, b in layer:
            for row in first.rows:
                (here, later), (there, then) = first.cycle(a, row), second.cycle(b, row)
                if any(here[name] != there[name] for name in names):
                    return n
                if (later, then) not in seen:
                    seen.add((later, then))
                    behind.append((later, then))
        layer = behind
    return None


def swapped(expression):
    """An expression with the same meaning, in which sums and the like stand the other way about."""
    if not isinstance(expression, tuple):
        return expression
    told = tuple(swapped(part) for part in expression)
    if told and told[0] in ("plus", "times", "and", "or", "xor", "equal") and len(told) == 3:
        return (told[0], told[2], told[1])
    return told


def harmless(design):
    """A design that means the same."""
    told = []
    for kind, name, items in design:
        changed = []
        for item in items:
            if item[0] in ("wire", "output"):
                changed.append((*item[:3], ("not", ("not", swapped(item[3])))))
            elif item[0] == "next":
                changed.append((*item[:2], swapped(item[2])))
            else:
                changed.append(item)
        told.append((kind, name, tuple(changed)))
    return tuple(told)


def one_changed(design, rule):
    """A design with one expression of an output, a wire or a next changed in one bit of it."""
    places = [(m, n) for m, (_, _, items) in enumerate(design) for n, item in enumerate(items) if item[0] in ("wire", "output", "next")]
    m, n = rule.one_of(places)
    kind, name, items = design[m]
    item = items[n]
    width = item[2] if item[0] != "next" else [reg[2] for reg in items if reg[:2] == ("reg", item[1])][0]
    whole = ("xor", item[-1], ("number", width, 1 << rule.pick(width)))
    if rule.pick(2):
        signal = [other for other in items[:n] if other[0] in ("input", "reg")][-1]
        last = ("equal", ("name", signal[1]), ("number", signal[2], rule.pick(2 ** signal[2])))
        whole = ("if", last, whole, item[-1])
    items = (*items[:n], (*item[:-1], whole), *items[n + 1:])
    return (*design[:m], (kind, name, items), *design[m + 1:])


class Pairs(Asking, unittest.TestCase):
    def test_word_for_word(self):
        one = design_of("module cell\ninput a: 1\noutput o: 1 = a\nend\nmodule top\ninput a: 1\ninput r: 2\nuse u: cell(a = a)\n"
                        "output x: 1 = u.o\noutput y: 2 = r\noutput z: 1 = a\nend\n")
        other = design_of("module box\ninput a: 1\ninput r: 2\noutput x: 1 = a\noutput y: 2 = r + 2#1\noutput z: 1 = a\nend\n")
        told = pair_of(one, other)
        self.assertEqual(design_text(told), """module l_cell
  input a: 1
  output o: 1 = a
end
module l_top
  input a: 1
  input r: 2
  use u: l_cell(a = a)
  output x: 1 = u.o
  output y: 2 = r
  output z: 1 = a
end
module r_box
  input a: 1
  input r: 2
  output x: 1 = a
  output y: 2 = r + 2#1
  output z: 1 = a
end
module pair
  input a: 1
  input r: 2
  use l: l_top(a = a, r = r)
  use r_: r_box(a = a, r = r)
  output same: 1 = l.x == r_.x & l.y == r_.y & l.z == r_.z
end
""")
        self.assertEqual(told[-1][2][-1], ("output", "same", 1, (
            "and", ("and", ("equal", ("port", "l", "x"), ("port", "r_", "x")), ("equal", ("port", "l", "y"), ("port", "r_", "y"))),
            ("equal", ("port", "l", "z"), ("port", "r_", "z")))))
        self.assertIsNone(check(told))
        self.assertEqual(pair_of(other, one)[-1][2][2], ("use", "l", "l_box", (("a", ("name", "a")), ("r", ("name", "r")))))

    def test_names_that_inputs_have(self):
        text = "module pair\n{}output o: 1 = 1#1\nend\n"
        for inputs, wanted in (((), ("l", "r", "same")), (("l",), ("l_", "r", "same")), (("l", "l_", "same"), ("l__", "r", "same_")),
                               (("r", "same", "same_", "l_"), ("l", "r_", "same__")), (("l", "r", "same"), ("l_", "r_", "same_"))):
            design = design_of(text.format("".join(f"input {name}: 1\n" for name in inputs)))
            items = pair_of(design, design)[-1][2]
            self.assertEqual(tuple(item[1] for item in items[len(inputs):]), wanted)
            self.assertEqual(items[-1][3], ("equal", ("port", wanted[0], "o"), ("port", wanted[1], "o")))
            self.assertEqual([module[1] for module in pair_of(design, design)], ["l_pair", "r_pair", "pair"])
            self.assertEqual(alike(design, design).__class__, Kept)

    def test_errors_in_their_order(self):
        right = PLAIN
        no_name = design_of("module m\noutput w: 1 = a\nend\n")
        bad_width = design_of("module m\ninput a: 2\noutput w: 1 = a\nend\n")
        other_ports = design_of("module averylongone\ninput a: 1\noutput w: 1 = a\nend\n")
        long_name = design_of("module longer_name\noutput w: 1 = 1#1\nend\n")
        longest = design_of("module eleven_more\nend\nmodule longer_name\noutput w: 1 = 1#1\nend\n")
        just = design_of("module ten_signs_\noutput w: 1 = 1#1\nend\n")
        for call in (pair_of, alike):
            self.assertFails(NoName, {"name": "a"}, call, no_name, bad_width)
            self.assertFails(BadWidth, {"name": "w", "wanted": 1, "told": 2}, call, bad_width, no_name)
            self.assertFails(NoName, {"name": "a"}, call, right, no_name)
            self.assertFails(NoName, {"name": "a"}, call, long_name, no_name)
            self.assertFails(BadWidth, {"name": "w", "wanted": 1, "told": 2}, call, other_ports, bad_width)
            self.assertFails(BadNumber, {"what": "width", "number": 65}, call, right, design_of("module m\ninput a: 65\nend\n"))
            self.assertFails(TakenName, {"name": "plain"}, call, right + right, right)
            self.assertFails(TakenName, {"name": "plain"}, call, right, right + right)
            for one, other in ((right, other_ports), (other_ports, right), (long_name, other_ports), (other_ports, long_name)):
                self.assertFails(Unlike, {"what": "ports"}, call, one, other)
            for one, other, name in ((right, long_name, "longer_name"), (long_name, right, "longer_name"), (longest, right, "eleven_more"),
                                     (right, longest, "eleven_more"), (long_name, longest, "longer_name"), (longest, long_name, "eleven_more")):
                self.assertFails(BadName, {"name": name}, call, one, other)
            call(just, just)

    def test_ports(self):
        text = "module m\ninput a: 2\ninput b: 1\noutput x: 1 = b\noutput y: 2 = a\nend\n"
        one = design_of(text)
        self.assertEqual(alike(one, one).__class__, Kept)
        for old, new in (("input a: 2\ninput b: 1\n", "input b: 1\ninput a: 2\n"), ("input b: 1", "input b: 1\ninput c: 1"),
                         ("output x: 1 = b\noutput y: 2 = a\n", "output y: 2 = a\noutput x: 1 = b\n"), ("output x", "output z"),
                         ("output y: 2 = a\n", ""), ("output y: 2 = a\n", "output y: 1 = a[0]\n"), ("output x", "wire x"),
                         ("output y: 2 = a\n", "output y: 2 = a\noutput z: 1 = b\n"), ("input b: 1\noutput x: 1 = b\n", "output x: 1 = a[1]\n")):
            other = design_of(text.replace(old, new))
            self.assertIsNone(check(other))
            self.assertFails(Unlike, {"what": "ports"}, pair_of, one, other)
            self.assertFails(Unlike, {"what": "ports"}, alike, other, one)
        for design in (EMPTY, design_of("module m\ninput a: 1\nend\n")):
            self.assertFails(Unlike, {"what": "ports"}, pair_of, design, design)
        # Items between, and inner ones of other names, do not matter.
        other = design_of(text.replace("output y", "wire c: 1 = ~b\nreg y2: 1 = 0\noutput y").replace("module m", "module n"))
        self.assertEqual(alike(one, other).__class__, Kept)
        self.assertEqual(alike(other, one).__class__, Kept)


class Alike(unittest.TestCase):
    def hold(self, one, other):
        """alike must tell the right one of both, and rows of the least number of cycles; tells this."""
        least = least_difference(one, other)
        pair = pair_of(one, other)
        self.assertIsNone(check(pair))
        name = pair[-1][2][-1][1]
        told = alike(one, other)
        self.assertIs(is_settled(pair, name, told), True)
        if least is None:
            self.assertIs(told.__class__, Kept)
            return None
        self.assertIs(told.__class__, Fallen)
        self.assertEqual(len(told.rows), least)
        names = outputs_of(one)
        first, second = Walk(one).signals(told.rows), Walk(other).signals(told.rows)
        unlike = [any(a[output] != b[output] for output in names) for a, b in zip(first, second)]
        self.assertEqual(unlike, [False] * (least - 1) + [True])
        return least

    def test_with_themselves_and_their_flat_forms(self):
        """[73]."""
        for number in range(50):
            design = wish_design(Rule(number + 9600))
            self.assertIsNone(self.hold(design, design))
            self.assertIsNone(self.hold(design, harmless(design)))
            self.assertIs(alike(design, flat(design)).__class__, Kept)
            self.assertIs(alike(flat(design), design).__class__, Kept)
            self.assertIs(alike(flat(design), flat(harmless(design))).__class__, Kept)
        for design in (KEYS, QUEUE, WORDS, PLAIN, NESTED):
            self.assertIsNone(self.hold(design, design))
            self.assertIs(alike(design, flat(design)).__class__, Kept)

    def test_with_one_expression_changed(self):
        counts = {}
        for number in range(120):
            design = wish_design(Rule(number + 9700), 1)
            other = one_changed(design, Rule(number))
            check(other)
            least = self.hold(design, other)
            self.assertEqual(self.hold(other, design), least)
            kind = None if least is None else min(least, 3)
            counts[kind] = counts.get(kind, 0) + 1
        self.assertTrue(all(counts.get(kind, 0) > 3 for kind in (None, 1, 2, 3)), counts)

    def test_later_differences(self):
        for bad, other, least in ((4, 5, 5), (4, 4, None), (7, 6, 7), (2, 6, 3)):
            one, two = counter_design(0, 7, bad), counter_design(0, 7, other)
            self.assertEqual(self.hold(one, two), least)
            self.assertEqual(self.hold(two, one), least)
        self.assertEqual(self.hold(counter_design(0, 7, 0), counter_design(1, 7, 0)), 1)
        self.assertEqual(self.hold(counter_design(0, 7, 0), counter_design(0, 6, 0)), 8)

    def test_other_codes(self):
        """One counts up from 0, the other down from 7."""
        up = design_of("module up\ninput on: 1\nreg r: 3 = 0\nnext r = if on then r + 3#1 else r\noutput o: 3 = r\nend\n")
        down = design_of("module down\ninput on: 1\nreg r: 3 = 7\nnext r = if on then r - 3#1 else r\noutput o: 3 = ~r\nend\n")
        wrong = design_of("module down\ninput on: 1\nreg r: 3 = 7\nnext r = if on & r != 3#2 then r - 3#1 else r\noutput o: 3 = ~r\nend\n")
        self.assertIsNone(self.hold(up, down))
        self.assertIsNone(self.hold(down, up))
        self.assertEqual(self.hold(up, wrong), 7)
        self.assertEqual(self.hold(wrong, down), 7)

    def test_of_three(self):
        """[73]: if one is alike to a second, and this to a third, then the first to the third."""
        counts = {}
        for number in range(40):
            design = wish_design(Rule(number + 9800), 1, False)
            rule = Rule(number)
            three = [design, harmless(design), one_changed(design, rule)]
            same = [[alike(one, other).__class__ is Kept for other in three] for one in three]
            for a in range(3):
                self.assertTrue(same[a][a])
                for b in range(3):
                    self.assertIs(same[a][b], same[b][a])
                    self.assertTrue(all(same[a][c] for c in range(3) if same[a][b] and same[b][c]))
            counts[same[0][2]] = counts.get(same[0][2], 0) + 1
        self.assertGreater(len(counts), 1)

    def test_first_breaks_of_pairs(self):
        design = counter_design(0, 7, 4)
        pair = pair_of(design, counter_design(0, 7, 5))
        told = first_break(machine_of(flat(pair), "same"), 8)
        self.assertEqual(len(told.rows), 5)


if __name__ == "__main__":
    unittest.main()
