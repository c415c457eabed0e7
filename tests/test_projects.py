"""[74], [75], [76]: designs and wishes that stand."""

import unittest

from everycycle.bits import machine_of
from everycycle.cycles import run
from everycycle.errors import BadLine, BadNumber, BadRow, BadWidth, Missing, NoName, NotKept, TakenName
from everycycle.flats import flat
from everycycle.judge import Kept, is_kept
from everycycle.pairs import Fallen, is_settled, settled
from everycycle.projects import Project, is_project_right
from everycycle.texts import design_of, design_text
from tests.anything import Own, anything
from tests.asking import Asking
from tests.fixed import Rule
from tests.wishes import Walk, top_items, wish_design, wishes_of

CELL = ("module cell\n  input on: 1\n  reg at: 2 = 0\n  next at = if on & ~(at == 2#2) then at + 2#1 else 2#0\n"
        "  output o: 2 = at\nend\n")
TOP = ("module top\n  input a: 1\n  use c: cell(on = a)\n  output few: 1 = ~(c.o == 2#3)\n  output low: 1 = ~(2#2 < c.o)\n"
       "  output bad: 1 = ~(c.o == 2#2)\n  output at: 2 = c.o\nend\n")
# Cells that reach 3, with a wider output, and one that only counts to 1; a top without one of its outputs.
WORSE = CELL.replace("~(at == 2#2)", "1#1")
WIDER = CELL.replace("output o: 2 = at", "output o: 3 = {1#0, at}")
LESS = CELL.replace("~(at == 2#2)", "at == 2#0")
WITHOUT = TOP.replace("  output low: 1 = ~(2#2 < c.o)\n", "")
EMPTY_TEXTS = ("", "\n", "   ", " \n\n   \n", "\n\n\n")


def told_of(project):
    """All that a project tells of what it keeps, the papers as objects."""
    return project.text(), project.names(), project.wishes(), [project.paper(name) for name in project.wishes()]


class Projects(Asking, unittest.TestCase):
    def right(self, project):
        """A project's papers must be those of its design, apart from its own judge."""
        self.assertIs(is_project_right(project), True)
        for name in project.wishes():
            paper = project.paper(name)
            self.assertIs(paper.__class__, Kept)
            self.assertIs(is_kept(machine_of(flat(design_of(project.text())), name), paper), True)

    def fails(self, project, kind, fields, call, *args):
        """A call must raise an error and change nothing."""
        before = told_of(project)
        self.assertFails(kind, fields, call, *args)
        after = told_of(project)
        self.assertEqual(after, before)
        self.assertTrue(all(one is other for one, other in zip(before[3], after[3])))
        self.right(project)

    def with_wishes(self, *names):
        project = Project(CELL + TOP)
        for name in names:
            self.assertIs(project.wish(name).__class__, Kept)
        self.right(project)
        return project


class Begun(Projects):
    def test_without_modules(self):
        for project in (Project(), *[Project(text) for text in EMPTY_TEXTS], Project(text="")):
            self.assertEqual(told_of(project), ("", (), (), []))
            self.right(project)
            for call in (project.wish, project.release, project.drop, project.paper):
                kind = Missing if call == project.wish else NoName
                for name in ("w", "", *anything()):
                    self.fails(project, kind, {"name": name}, call, name)
            self.fails(project, Missing, {"name": "w"}, project.may_be, "w", 0)

    def test_with_modules(self):
        for text in (CELL, CELL + TOP, "\n" + CELL + "   \n" + TOP):
            project = Project(text)
            self.assertEqual(project.text(), design_text(design_of(text)))
            self.assertEqual(project.names(), tuple(name for _, name, _ in design_of(text)))
            self.assertEqual(project.wishes(), ())
            self.right(project)
        self.assertFalse(Project(CELL) == Project(CELL))
        self.assertTrue(project == project)

    def test_errors(self):
        for text in anything():
            if text.__class__ is not str:
                self.assertFails(BadLine, {"line": 0, "column": 0}, Project, text)
        for text, line, column in (("module", 1, 7), (CELL[:-4], 6, 1), ("x", 1, 1), (" \n \n x", 3, 2), ("\t", 1, 1), (CELL + "end", 7, 1),
                                   ("module a\n", 2, 1)):
            self.assertFails(BadLine, {"line": line, "column": column}, Project, text)
        self.assertFails(NoName, {"name": "cell"}, Project, TOP)
        self.assertFails(TakenName, {"name": "cell"}, Project, CELL + TOP + CELL)
        self.assertFails(BadWidth, {"name": "o", "wanted": 2, "told": 3}, Project, CELL.replace("o: 2 = at", "o: 2 = {1#0, at}"))


class Put(Projects):
    def test_new_ones_and_ones_that_are_there(self):
        project = Project()
        self.assertIsNone(project.put(CELL))
        self.assertEqual(project.names(), ("cell",))
        self.assertIsNone(project.put(TOP))
        self.assertEqual(project.text(), CELL + TOP)
        project.put(LESS)
        self.assertEqual(project.text(), LESS + TOP)
        project.put(TOP.replace("a: 1", "aa: 1").replace("= a)", "= aa)") + CELL)
        self.assertEqual(project.names(), ("cell", "top"))
        self.assertEqual(project.text(), CELL + TOP.replace("a: 1", "aa: 1").replace("= a)", "= aa)"))
        project.put("module last\nend\n" + TOP + "module more\nend\n")
        self.assertEqual(project.names(), ("cell", "top", "last", "more"))
        self.assertEqual(project.text(), CELL + TOP + "module last\nend\nmodule more\nend\n")
        self.right(project)

    def test_wrong_texts(self):
        for project in (Project(), Project(CELL + TOP), self.with_wishes("few")):
            for text in anything():
                if text.__class__ is not str:
                    self.fails(project, BadLine, {"line": 0, "column": 0}, project.put, text)
            for text in EMPTY_TEXTS:
                lines = len(text.split("\n")) - (1 if text == "" or text[-1] == "\n" else 0)
                self.fails(project, BadLine, {"line": lines + 1, "column": 1}, project.put, text)
            self.fails(project, BadLine, {"line": 1, "column": 1}, project.put, "x")
            self.fails(project, BadLine, {"line": 8, "column": 1}, project.put, CELL + "module a\n")

    def test_a_module_twice(self):
        project = self.with_wishes("few", "low")
        other = "module other\nend\n"
        for text, name in ((WORSE + CELL, "cell"), (CELL + TOP + CELL, "cell"), (other + other + CELL + CELL, "other"),
                           (CELL + other + CELL + other, "cell"), (other + TOP + TOP.replace("c.o", "d.o") + other, "top")):
            self.fails(project, TakenName, {"name": name}, project.put, text)
            self.fails(Project(), TakenName, {"name": name}, Project().put, text)

    def test_what_leaves_no_meaning(self):
        project = self.with_wishes("few")
        self.fails(project, BadWidth, {"name": "few", "wanted": 3, "told": 2}, project.put, WIDER)
        self.fails(project, NoName, {"name": "none"}, project.put, TOP.replace("cell", "none"))
        self.fails(project, NoName, {"name": "b"}, project.put, "module last\noutput w: 1 = b\nend\n")
        self.fails(Project(), NoName, {"name": "cell"}, Project().put, TOP)
        self.fails(project, NoName, {"name": "later"}, project.put, CELL.replace("output", "use l: later()\n  output") + "module later\nend\n")

    def test_a_change_that_breaks_a_wish(self):
        project = self.with_wishes("low", "few")
        with self.assertRaises(NotKept) as caught:
            project.put(WORSE)
        self.assertEqual(caught.exception.name, "low")
        rows = caught.exception.rows
        self.assertEqual((rows.__class__, rows[:3], len(rows)), (tuple, ((1,), (1,), (1,)), 4))
        self.assertTrue(Walk(design_of(WORSE + TOP)).falls_last("low", rows))
        self.fails(project, NotKept, {"name": "low", "rows": rows}, project.put, WORSE)
        project.release("low")
        with self.assertRaises(NotKept) as caught:
            project.put(WORSE)
        self.assertEqual((caught.exception.name, len(caught.exception.rows)), ("few", 4))
        project.release("few")
        project.put(WORSE)
        self.assertEqual(project.text(), WORSE + TOP)

    def test_a_change_that_takes_an_output_away(self):
        project = self.with_wishes("few", "low")
        self.fails(project, Missing, {"name": "low"}, project.put, WITHOUT)
        self.fails(project, Missing, {"name": "few"}, project.put, "module last\nend\n")
        self.fails(project, Missing, {"name": "low"}, project.put, TOP.replace("output low", "wire low"))
        self.fails(project, Missing, {"name": "low"}, project.put, TOP.replace("low: 1 = ~(2#2 < c.o)", "low: 2 = c.o"))
        # The wishes go in their order: the first one is broken here ahead of the other that is missing.
        with self.assertRaises(NotKept) as caught:
            project.put(WORSE + WITHOUT)
        self.assertEqual(caught.exception.name, "few")
        project.release("low")
        project.put(WITHOUT)
        self.assertEqual(project.text(), CELL + WITHOUT)
        project.release("few")
        project.put("module last\nend\n")
        self.assertEqual(project.names(), ("cell", "top", "last"))

    def test_papers_stay_or_are_made_anew(self):
        project = self.with_wishes("few", "low")
        papers = [project.paper(name) for name in ("few", "low")]
        project.put(TOP.replace("input a: 1", "input a: 1\n  wire b: 1 = ~a"))
        project.put(CELL + TOP)
        self.right(project)
        self.assertIs(project.paper("few"), papers[0])
        self.assertIs(project.paper("low"), papers[1])
        # With another register ahead the papers are no longer right.
        project.put(CELL.replace("  reg at", "  reg more: 3 = 5\n  next more = more * 3#3\n  reg at"))
        self.right(project)
        self.assertIsNot(project.paper("few"), papers[0])
        self.assertEqual(project.wishes(), ("few", "low"))

    def test_made_by_a_rule(self):
        """A put is made exactly if all wishes are kept by the new design, by a search."""
        made = broken = 0
        for number in range(60):
            rule = Rule(number)
            designs = [wish_design(Rule(3 * number + k + 9900)) for k in range(3)]
            project = Project(design_text(designs[0]))
            for name in wishes_of(designs[0]):
                project.wish(name)
            for design in designs[1:]:
                # With the cell of another design, if it has the same ports, or the whole design.
                new = design_text(design[:1] if rule.pick(2) else design)
                try:
                    project.put(new)
                    made += 1
                except NotKept as error:
                    broken += 1
                    self.assertEqual(Walk(design).least_fall(error.name) if len(design_of(new)) == 2 else len(error.rows), len(error.rows))
                except (NoName, BadWidth, TakenName, BadNumber):
                    pass
                self.right(project)
                walk = Walk(design_of(project.text()))
                self.assertTrue(all(walk.least_fall(name) is None for name in project.wishes()))
        self.assertTrue(made > 15 and broken > 5, (made, broken))


class Drop(Projects):
    def test_drop(self):
        project = Project("module more\nend\n" + CELL + "module other\nend\n" + TOP)
        self.assertIsNone(project.drop("other"))
        self.assertEqual(project.names(), ("more", "cell", "top"))
        project.wish("few")
        paper = project.paper("few")
        project.drop("more")
        self.assertEqual(project.text(), CELL + TOP)
        self.assertIs(project.paper("few"), paper)
        self.right(project)
        self.fails(project, NoName, {"name": "cell"}, project.drop, "cell")
        self.fails(project, Missing, {"name": "few"}, project.drop, "top")
        for name in ("more", "other", "few", "a", "c", "", "Top", *anything()):
            self.fails(project, NoName, {"name": name}, project.drop, name)
        project.release("few")
        project.drop("top")
        project.drop("cell")
        self.assertEqual(told_of(project), ("", (), (), []))

    def test_what_falls_behind_a_drop(self):
        """The module ahead becomes the top: the wish is one of that, too, and may fall there."""
        below = "module below\n  input a: 1\n  output few: 1 = a\n  output low: 1 = a | ~a\nend\n"
        project = Project(below + CELL + TOP)
        self.assertIs(project.wish("low").__class__, Kept)
        self.assertIs(project.wish("few").__class__, Kept)
        self.fails(project, NoName, {"name": "cell"}, project.drop, "cell")
        self.fails(project, Missing, {"name": "low"}, project.drop, "top")
        project = Project(CELL + below + TOP)
        project.wish("low")
        project.drop("top")
        self.right(project)
        self.assertEqual(project.wishes(), ("low",))
        project = Project(CELL + below + TOP)
        project.wish("low")
        project.wish("few")
        self.fails(project, NotKept, {"name": "few", "rows": ((0,),)}, project.drop, "top")


class Wish(Projects):
    def test_kept_and_fallen(self):
        project = Project(CELL + TOP)
        design = design_of(CELL + TOP)
        told = project.wish("few")
        self.assertIs(told.__class__, Kept)
        self.assertIs(project.paper("few"), told)
        fallen = project.wish("bad")
        self.assertIs(fallen.__class__, Fallen)
        self.assertEqual(fallen.rows, settled(design, "bad").rows)
        self.assertEqual((fallen.rows[:2], len(fallen.rows)), (((1,), (1,)), 3))
        self.assertEqual(project.wishes(), ("few",))
        project.wish("low")
        self.assertEqual(project.wishes(), ("few", "low"))
        for name in ("few", "low"):
            self.assertIs(is_settled(design, name, project.paper(name)), True)
        self.right(project)

    def test_a_wish_that_stands_already(self):
        project = self.with_wishes("low", "few")
        papers = told_of(project)[3]
        told = project.wish("low")
        self.assertIs(is_settled(design_of(CELL + TOP), "low", told), True)
        self.assertEqual(project.wishes(), ("low", "few"))
        self.assertTrue(all(one is other for one, other in zip(papers, told_of(project)[3])))

    def test_any_value(self):
        project = self.with_wishes("few")
        for name in ("at", "a", "c", "top", "cell", "o", "c.o", "Few", "few ", "", ["few"], ("few",), *anything()):
            self.fails(project, Missing, {"name": name}, project.wish, name)

    def test_release(self):
        project = self.with_wishes("few", "low")
        for name in ("bad", "at", "a", "top", "", "Few", ["few"], ("few",), *anything()):
            self.fails(project, NoName, {"name": name}, project.release, name)
            self.fails(project, NoName, {"name": name}, project.paper, name)
        self.assertIsNone(project.release("few"))
        self.assertEqual(project.wishes(), ("low",))
        self.fails(project, NoName, {"name": "few"}, project.release, "few")
        self.fails(project, NoName, {"name": "few"}, project.paper, "few")
        project.wish("few")
        self.assertEqual(project.wishes(), ("low", "few"))
        self.right(project)


class Runs(Projects):
    def test_run(self):
        project = Project(CELL + TOP)
        for rows in ((), ((1,), (0,)), [[1], [1], [1]]):
            self.assertEqual(project.run(rows), run(design_of(CELL + TOP), rows))
        for rows in (((2,),), None, ((1, 0),), (1,), *[value for value in anything() if not isinstance(value, (tuple, list))]):
            self.fails(project, BadRow, {"row": rows}, project.run, rows)

    def hold(self, project, walk, name, value):
        """may_be must tell whether an output has a word in some cycle, by a search; tells in how many cycles it has."""
        least = walk.least(lambda words: words[name] == value)
        before = told_of(project)
        told = project.may_be(name, value)
        self.assertEqual(told_of(project), before)
        self.assertEqual((told.__class__, len(told)), (tuple, 2))
        if least is None:
            self.assertIs(told[0], False)
            never, design = with_never(walk.design, name, value)
            self.assertIs(is_settled(design, never, told[1]), True)
            self.assertIs(told[1].__class__, Kept)
        else:
            self.assertIs(told[0], True)
            self.assertEqual((told[1].__class__, len(told[1])), (tuple, least))
            words = [signals[name] for signals in walk.signals(told[1])]
            self.assertEqual((words[-1], words.count(value)), (value, 1))
        return least

    def test_each_word(self):
        project = self.with_wishes("few")
        walk = Walk(design_of(CELL + TOP))
        self.assertEqual([self.hold(project, walk, "at", value) for value in range(4)], [1, 2, 3, None])
        self.assertEqual([self.hold(project, walk, "few", value) for value in range(2)], [None, 1])
        self.assertEqual([self.hold(project, walk, "bad", value) for value in range(2)], [3, 1])
        counts = {}
        for number in range(40):
            design = wish_design(Rule(number + 10000))
            project, walk = Project(design_text(design)), Walk(design)
            for name, width in (("w", 1), ("z", 1), ("two", 2)):
                for value in range(2 ** width):
                    least = self.hold(project, walk, name, value)
                    kind = None if least is None else min(least, 3)
                    counts[kind] = counts.get(kind, 0) + 1
        self.assertTrue(all(counts.get(kind, 0) > 2 for kind in (None, 1, 2, 3)), counts)

    def test_an_item_called_never(self):
        for kind in ("wire never: 1 = a", "reg never: 1 = 0", "output never: 1 = a", "memory never: 1 by 1", "use never: inner()",
                     "wire never: 1 = a\noutput never_: 1 = ~a", "wire never_: 1 = a", "input never: 1"):
            text = f"module inner\nend\nmodule never\ninput a: 1\n{kind}\noutput x: 2 = {{1#0, a}}\nend\n"
            project, walk = Project(text), Walk(design_of(text))
            self.assertEqual([self.hold(project, walk, "x", value) for value in range(4)], [1, 1, None, None])

    def test_of_one_module_and_of_three(self):
        one = "module only\ninput a: 1\nreg r: 2 = 0\nnext r = r + {1#0, a}\noutput at: 2 = r\noutput w: 1 = a\nend\n"
        for text in (one, "module more\nend\n" + CELL + TOP):
            project, walk = Project(text), Walk(design_of(text))
            self.assertEqual([self.hold(project, walk, "at", value) for value in range(4)], [1, 2, 3, 4 if text == one else None])

    def test_errors(self):
        project = self.with_wishes("few")
        for name in ("a", "c", "o", "c.o", "top", "", "At", *anything()):
            for value in (0, -1, None, name):
                self.fails(project, Missing, {"name": name}, project.may_be, name, value)
        for value in (*anything(), 4, -1, True):
            if value.__class__ is int and 0 <= value <= 3:
                self.assertIs(project.may_be("at", value)[0], value < 3)
            else:
                self.fails(project, BadNumber, {"what": "value", "number": value}, project.may_be, "at", value)
        self.fails(project, BadNumber, {"what": "value", "number": 2}, project.may_be, "few", 2)


def with_never(design, name, value):
    """The name of the wish of may_be, and the design with it, by the words of [75]."""
    kind, top, items = design[-1]
    never = "never"
    while any(item[1] == never for item in items):
        never += "_"
    width = [item[2] for item in items if item[0] == "output" and item[1] == name][0]
    wish = ("output", never, 1, ("not", ("equal", ("name", name), ("number", width, value))))
    return never, (*design[:-1], (kind, top, (*items, wish)))


class Right(Projects):
    def test_what_the_judge_does_not_take(self):
        """is_project_right looks at the papers and the design, not at how they came there."""
        project = self.with_wishes("few", "low")
        held = project.held
        modules, wishes = held
        for other in (((design_of(WORSE + TOP)), wishes), (design_of(CELL + WITHOUT), wishes), (design_of(CELL), wishes), ((), wishes),
                      (modules, (wishes[0], ("bad", wishes[1][1]))), (modules, (("few", None),)), (modules, (("few", Kept((), (None,))),)),
                      (modules, (("at", wishes[0][1]),)), (modules, (("few", Fallen(())),))):
            project.held = other
            self.assertIs(is_project_right(project), False)
        for other in (held, (modules, ()), (modules, wishes[1:]), (modules, wishes[::-1]), ((), ())):
            project.held = other
            self.assertIs(is_project_right(project), True)
        self.assertEqual(top_items(modules)[0], ("input", "a", 1))
        self.assertIsNotNone(Own())


if __name__ == "__main__":
    unittest.main()
