"""[1]: what all parts tell of one circuit, held against a search over all states by the plain meaning."""

import unittest

from everycycle.backs import bits_of, first_fall, is_enough, open_bits, words_of
from everycycle.bits import machine_of
from everycycle.bounded import Broken, FirstBreak, NoBreak, cut_out, first_break, is_break
from everycycle.clauses import played
from everycycle.cycles import run
from everycycle.designs import check
from everycycle.flats import flat
from everycycle.frames import settle
from everycycle.judge import Kept, is_kept, lessened
from everycycle.pairs import Fallen, is_settled, settled
from everycycle.projects import Project, is_project_right
from everycycle.steps import KeptBySteps, by_steps, is_by_steps
from everycycle.texts import design_of, design_text
from tests.circuits import NESTED, PLAIN
from tests.fixed import Rule
from tests.test_runs import some_rows
from tests.wishes import KEYS, QUEUE, WORDS, Walk, counter_design, wish_design, wishes_of


class Parts(unittest.TestCase):
    def hold(self, design, name, walk):
        """All parts must tell the same of an output of one bit, the right thing; tells in how many cycles it falls."""
        least = walk.least_fall(name)
        machine = machine_of(flat(design), name)
        told = settled(design, name)
        answer = settle(machine)
        self.assertIs(is_settled(design, name, told), True)
        self.hold_bounded(machine, least)
        if least is None:
            self.assertEqual((told.__class__, answer.__class__), (Kept, Kept))
            self.hold_kept(machine, told)
            for number in range(3):
                rows = some_rows(design, Rule(number), 12)
                self.assertIsNone(first_fall(design, name, rows))
                self.assertTrue(all(words[name] == 1 for words in walk.signals(rows)))
        else:
            self.assertEqual((told.__class__, answer.__class__), (Fallen, Broken))
            self.assertEqual((len(told.rows), len(answer.rows)), (least, least))
            self.assertTrue(walk.falls_last(name, told.rows))
            self.hold_fallen(design, name, machine, told.rows)
        return least

    def hold_bounded(self, machine, least):
        most = 4 if least is None else least
        told = first_break(machine, most)
        self.assertIs(told.__class__, NoBreak if least is None else FirstBreak)
        if least is not None and least > 1:
            self.assertIs(first_break(machine, least - 1).__class__, NoBreak)
        for k in (0, 1, 2):
            steps = by_steps(machine, k)
            self.assertIs(is_by_steps(machine, k, steps), True)
            self.assertIs(steps.__class__ is FirstBreak, least is not None and least <= k)
            self.assertTrue(least is None or steps.__class__ is not KeptBySteps)

    def hold_kept(self, machine, told):
        self.assertIs(is_kept(machine, told), True)
        less = lessened(machine, told)
        self.assertIs(is_kept(machine, less), True)
        self.assertTrue(set(less.clauses) <= set(told.clauses))

    def hold_fallen(self, design, name, machine, rows):
        bits = bits_of(design, rows)
        self.assertIs(is_break(machine, bits), True)
        self.assertEqual(words_of(design, bits), rows)
        self.assertEqual(cut_out(machine, bits), bits)
        self.assertEqual([wish for _, wish in played(machine, bits)], [dict(signals)[name] for _, signals in run(design, rows)])
        told = open_bits(design, name, rows)
        self.assertIs(is_enough(design, name, rows, told.mask, told.lines), True)

    def test_by_hand(self):
        for design in (KEYS, QUEUE, WORDS, PLAIN, NESTED, counter_design(0, 7, 7), counter_design(0, 5, 7), counter_design(2, 6, 0)):
            for name in wishes_of(design):
                self.hold(design, name, Walk(design))

    def test_made_by_a_rule(self):
        counts = {}
        for number in range(150):
            design = wish_design(Rule(number + 10200))
            self.assertIsNone(check(design))
            self.assertEqual(design_of(design_text(design)), design)
            walk = Walk(design)
            for name in wishes_of(design):
                least = self.hold(design, name, walk)
                kind = None if least is None else min(least, 3)
                counts[kind] = counts.get(kind, 0) + 1
                for other in (flat(design), design_of(design_text(design))):
                    told = settled(other, name)
                    self.assertIs(told.__class__, Kept if least is None else Fallen)
                    self.assertIs(is_settled(design, name, told), True)
        self.assertTrue(all(counts.get(kind, 0) > 5 for kind in (None, 1, 2, 3)), counts)

    def test_in_projects(self):
        for number in range(40):
            design = wish_design(Rule(number + 10400))
            walk, project = Walk(design), Project(design_text(design))
            for name in wishes_of(design):
                least = walk.least_fall(name)
                told = project.wish(name)
                self.assertIs(told.__class__, Kept if least is None else Fallen)
                self.assertIs(name in project.wishes(), least is None)
                may, rows = project.may_be(name, 0)
                self.assertIs(may, least is not None)
                self.assertTrue(not may or len(rows) == least)
            self.assertIs(is_project_right(project), True)


if __name__ == "__main__":
    unittest.main()
