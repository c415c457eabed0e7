"""[77]: edits that are taken back and done again, attempts and trials."""

import unittest

from everycycle.errors import (
    BadLine, CycleError, Missing, NoName, NotKept, NothingToRedo, NothingToUndo,
)
from everycycle.judge import Kept
from everycycle.projects import Project, is_project_right
from tests.asking import Asking
from tests.fixed import Rule
from tests.test_projects import CELL, LESS, TOP, WITHOUT, WORSE

# The papers of wishes stay when this top comes.
OTHER = TOP.replace("output at: 2 = c.o", "output at: 2 = ~c.o")


def told_of(project):
    """All that a project keeps: its text and the pairs of its wishes and papers, the papers as objects."""
    return project.text(), tuple((name, project.paper(name)) for name in project.wishes())


def ways_of(project):
    """What can be undone and done again, from the last edit to the first, and from the next one on; it stays as it was."""
    back, forth = [], []
    many = 0
    while True:
        try:
            project.undo()
        except NothingToUndo:
            break
        many += 1
        back.append(told_of(project))
    for _ in range(many):
        project.redo()
    here = told_of(project)
    many = 0
    while True:
        try:
            project.redo()
        except NothingToRedo:
            break
        many += 1
        forth.append(told_of(project))
    for _ in range(many):
        project.undo()
    assert told_of(project) == here
    return back, forth


class Odd(Exception):
    """An error that is none of the package's."""


class Worst(BaseException):
    """One that is not even an Exception."""


class Edits(Asking, unittest.TestCase):
    def setUp(self):
        self.project = Project(CELL + TOP)

    def nothing_left(self, project=None):
        project = project or self.project
        self.assertFails(NothingToUndo, {}, project.undo)
        self.assertFails(NothingToRedo, {}, project.redo)

    def fails_and_stays(self, kind, call, *args):
        """A call must raise an error of just this class, and change neither what is kept nor the ways back and forth."""
        before, ways = told_of(self.project), ways_of(self.project)
        with self.assertRaises(kind) as caught:
            call(*args)
        self.assertIs(caught.exception.__class__, kind)
        self.assertEqual(told_of(self.project), before)
        self.assertEqual(ways_of(self.project), ways)
        self.assertIs(is_project_right(self.project), True)
        return caught.exception


class UndoAndRedo(Edits):
    def test_nothing_to_do(self):
        for project in (self.project, Project()):
            self.nothing_left(project)
            before = told_of(project)
            self.assertFails(NothingToUndo, {}, project.undo)
            self.assertEqual(told_of(project), before)

    def test_to_both_ends_and_back(self):
        project = Project()
        acts = ((project.put, CELL), (project.put, TOP), (project.wish, "few"), (project.wish, "low"), (project.put, LESS),
                (project.release, "few"), (project.put, "module last\nend\n" + TOP), (project.drop, "last"))
        told = [told_of(project)]
        for act, name in acts[:6]:
            act(name)
            told.append(told_of(project))
        for at in (5, 4, 3, 2, 1, 0):
            self.assertIsNone(project.undo())
            self.assertEqual(told_of(project), told[at])
            self.assertIs(is_project_right(project), True)
        self.assertFails(NothingToUndo, {}, project.undo)
        for at in (1, 2, 3, 4, 5, 6):
            self.assertIsNone(project.redo())
            self.assertEqual(told_of(project), told[at])
            self.assertIs(is_project_right(project), True)
        self.assertFails(NothingToRedo, {}, project.redo)
        project.undo()
        project.undo()
        project.redo()
        self.assertEqual(told_of(project), told[5])
        self.assertEqual(ways_of(project), (told[4::-1], told[6:]))

    def test_drop_is_an_edit(self):
        project = Project("module last\nend\n" + CELL + TOP)
        project.drop("last")
        self.assertEqual(project.names(), ("cell", "top"))
        project.undo()
        self.assertEqual(project.names(), ("last", "cell", "top"))
        project.redo()
        self.assertEqual(project.names(), ("cell", "top"))

    def test_an_edit_behind_an_undo(self):
        self.project.wish("few")
        self.project.wish("low")
        self.project.undo()
        self.project.put(LESS)
        self.assertFails(NothingToRedo, {}, self.project.redo)
        self.assertEqual(self.project.wishes(), ("few",))
        self.project.undo()
        self.project.undo()
        self.assertEqual(told_of(self.project), (CELL + TOP, ()))
        self.assertFails(NothingToUndo, {}, self.project.undo)

    def test_what_changes_nothing_is_no_edit(self):
        self.project.put(CELL)
        self.project.put(CELL + TOP)
        self.project.wish("bad")
        self.nothing_left()
        self.project.wish("few")
        self.project.put(LESS)
        self.project.undo()
        ways = ways_of(self.project)
        paper = self.project.paper("few")
        self.project.wish("few")
        self.project.wish("bad")
        self.project.put(TOP)
        self.project.may_be("at", 1)
        self.project.run(((1,),))
        self.project.text()
        self.assertIs(self.project.paper("few"), paper)
        self.assertEqual(ways_of(self.project), ways)
        self.project.redo()
        self.assertEqual(self.project.text(), LESS + TOP)

    def test_errors_are_no_edits(self):
        self.project.wish("few")
        self.project.put(LESS)
        self.project.undo()
        for kind, call, value in ((NotKept, self.project.put, WORSE), (BadLine, self.project.put, "x"), (Missing, self.project.drop, "top"),
                                  (NoName, self.project.drop, "none"), (Missing, self.project.wish, "at"), (NoName, self.project.release, "low")):
            self.fails_and_stays(kind, call, value)


class Attempts(Edits):
    def edits(self, project):
        project.wish("few")
        project.put(LESS)
        project.wish("low")
        return "told"

    def test_all_edits_are_one(self):
        before = told_of(self.project)
        self.assertEqual(self.project.attempt(self.edits), "told")
        self.assertEqual((self.project.text(), self.project.wishes()), (LESS + TOP, ("few", "low")))
        after = told_of(self.project)
        self.assertEqual(ways_of(self.project), ([before], []))
        self.project.undo()
        self.assertEqual(told_of(self.project), before)
        self.project.redo()
        self.assertEqual(told_of(self.project), after)
        self.assertIs(is_project_right(self.project), True)

    def test_what_it_tells(self):
        for value in (None, 5, [1], self, self.project):
            self.assertIs(self.project.attempt(lambda project: value), value)
            self.assertIs(self.project.trial(lambda project: value), value)
        self.assertIs(self.project.attempt(lambda project: project), self.project)
        self.assertIs(self.project.trial(lambda project: project), self.project)
        self.assertIs(self.project.attempt(lambda project: project.wish("few")), self.project.paper("few"))
        self.assertIs(self.project.trial(lambda project: project.wish("low")).__class__, Kept)
        self.assertEqual(self.project.wishes(), ("few",))

    def test_an_edit_makes_nothing_to_redo(self):
        self.project.wish("few")
        self.project.undo()
        self.project.attempt(lambda project: project.wish("low"))
        self.assertFails(NothingToRedo, {}, self.project.redo)

    def test_no_change_is_no_edit(self):
        self.project.wish("few")
        self.project.put(LESS)
        self.project.undo()
        before, ways = told_of(self.project), ways_of(self.project)

        def there_and_back(project):
            project.put(OTHER)
            project.wish("low")
            project.release("few")
            project.undo()
            project.undo()
            project.redo()
            project.put(TOP)
            project.release("low")

        for action in (lambda project: None, lambda project: project.put(CELL), lambda project: project.wish("bad"), there_and_back,
                       lambda project: (project.put(OTHER), project.put(TOP)), lambda project: (project.put(LESS), project.undo()),
                       lambda project: (project.wish("low"), project.undo(), project.redo(), project.undo()),
                       lambda project: (project.wish("low"), project.release("low")), lambda project: project.wish("few")):
            self.project.attempt(action)
            self.assertEqual(told_of(self.project), before)
            self.assertEqual(ways_of(self.project), ways)

    def test_another_paper_is_a_change(self):
        """The wish goes and comes with a new paper: another object, though it may be made the same."""
        self.project.wish("few")
        before = told_of(self.project)
        self.project.attempt(lambda project: (project.release("few"), project.wish("few")))
        after = told_of(self.project)
        self.assertEqual(self.project.wishes(), ("few",))
        self.assertIsNot(after[1][0][1], before[1][0][1])
        self.assertEqual(ways_of(self.project)[0], [before, (CELL + TOP, ())])

    def test_another_order_is_a_change(self):
        self.project.wish("few")
        self.project.wish("low")
        paper = self.project.paper("low")
        before = told_of(self.project)

        def turned(project):
            project.release("few")
            project.wish("few")

        self.project.attempt(turned)
        self.assertEqual(self.project.wishes(), ("low", "few"))
        self.assertIs(self.project.paper("low"), paper)
        self.assertEqual(ways_of(self.project)[0][0], before)

    def test_errors_of_any_kind(self):
        self.project.wish("few")
        self.project.put(LESS)
        self.project.undo()

        def fails_with(error):
            def action(project):
                project.wish("low")
                project.put(LESS)
                project.undo()
                raise error
            return action

        errors = [Odd("x"), Worst(), KeyError(1), ValueError(), StopIteration(), GeneratorExit(), KeyboardInterrupt(), SystemExit(3),
                  RecursionError(), NotKept("w", ()), CycleError(), NothingToUndo()]
        for error in errors:
            for call in (self.project.attempt, self.project.trial):
                told = self.fails_and_stays(error.__class__, call, fails_with(error))
                self.assertIs(told, error)
        for call in (self.project.attempt, self.project.trial):
            self.fails_and_stays(NotKept, call, lambda project: (project.wish("low"), project.put(WORSE)))
            self.fails_and_stays(Missing, call, lambda project: (project.wish("low"), project.put(WITHOUT)))
            self.fails_and_stays(NothingToUndo, call, lambda project: project.undo())
            self.fails_and_stays(NothingToUndo, call, lambda project: (project.wish("low"), project.undo(), project.undo()))
            self.fails_and_stays(NothingToRedo, call, lambda project: project.redo())
            self.fails_and_stays(NothingToRedo, call, lambda project: (project.wish("low"), project.redo()))
            self.fails_and_stays(TypeError, call, lambda: None)
            self.fails_and_stays(TypeError, call, None)

    def test_errors_that_are_caught_within(self):
        def action(project):
            project.wish("low")
            for call, value in ((project.put, WORSE), (project.drop, "cell"), (project.wish, "at"), (project.attempt, self.falls)):
                try:
                    call(value)
                except (CycleError, Odd):
                    self.assertEqual(project.wishes(), ("low",))
            project.wish("few")

        self.project.attempt(action)
        self.assertEqual(self.project.wishes(), ("low", "few"))
        self.assertEqual(len(ways_of(self.project)[0]), 1)

    def falls(self, project):
        project.put(LESS)
        project.release("low")
        raise Odd

    def test_undo_and_redo_within_know_their_own_edits_alone(self):
        self.project.wish("few")
        self.project.put(LESS)
        self.project.undo()

        def action(project):
            self.nothing_left(project)
            project.wish("low")
            project.put(LESS)
            project.undo()
            self.assertEqual(project.text(), CELL + TOP)
            project.undo()
            self.nothing_to_undo(project)
            project.redo()
            project.redo()
            self.assertFails(NothingToRedo, {}, project.redo)
            self.assertEqual((project.text(), project.wishes()), (LESS + TOP, ("few", "low")))
            project.undo()

        before, ways = told_of(self.project), ways_of(self.project)
        self.project.trial(action)
        self.assertEqual((told_of(self.project), ways_of(self.project)), (before, ways))
        self.project.attempt(action)
        self.assertEqual((self.project.text(), self.project.wishes()), (CELL + TOP, ("few", "low")))
        # What was taken back within is gone, and so is what could be done again ahead of the edit.
        self.assertFails(NothingToRedo, {}, self.project.redo)
        self.assertEqual(ways_of(self.project), ([before, *ways[0]], []))

    def nothing_to_undo(self, project):
        self.assertFails(NothingToUndo, {}, project.undo)

    def test_what_was_taken_back_within_is_gone(self):
        self.project.wish("few")
        self.project.undo()
        before, ways = told_of(self.project), ways_of(self.project)
        self.project.attempt(lambda project: (project.put(LESS), project.undo()))
        self.assertEqual((told_of(self.project), ways_of(self.project)), (before, ways))
        self.project.redo()
        self.assertEqual((self.project.text(), self.project.wishes()), (CELL + TOP, ("few",)))

    def test_within_one_another(self):
        ways = []

        def inner(project):
            self.nothing_left(project)
            project.wish("few")
            project.put(LESS)
            return "inner"

        def outer(project):
            project.wish("low")
            self.assertEqual(project.attempt(inner), "inner")
            self.assertEqual(len(ways_of(project)[0]), 2)
            project.undo()
            self.assertEqual((project.text(), project.wishes()), (CELL + TOP, ("low",)))
            self.assertEqual(project.trial(inner), "inner")
            self.assertEqual((project.text(), project.wishes()), (CELL + TOP, ("low",)))
            project.redo()
            self.assertEqual((project.text(), project.wishes()), (LESS + TOP, ("low", "few")))
            ways.append(ways_of(project))
            return "outer"

        before = told_of(self.project)
        self.assertEqual(self.project.trial(outer), "outer")
        self.assertEqual(told_of(self.project), before)
        self.nothing_left()
        self.assertEqual(self.project.attempt(outer), "outer")
        self.assertEqual(ways_of(self.project), ([before], []))
        self.assertEqual([(len(back), len(forth)) for back, forth in ways], [(2, 0), (2, 0)])

    def test_a_trial_within_an_attempt_that_fails(self):
        def outer(project):
            project.wish("few")
            project.trial(self.falls_later)

        self.fails_and_stays(Odd, self.project.attempt, outer)
        self.nothing_left()

    def falls_later(self, project):
        project.wish("low")
        project.undo()
        raise Odd

    def test_with_the_project_itself(self):
        """Named within, the project is the one that is passed."""
        self.project.attempt(lambda _: self.edits(self.project))
        self.assertEqual(self.project.wishes(), ("few", "low"))
        self.assertEqual(len(ways_of(self.project)[0]), 1)
        self.project.trial(lambda _: self.project.release("few"))
        self.assertEqual(self.project.wishes(), ("few", "low"))
        self.project.attempt(lambda one: self.project.attempt(lambda other: (one.release("few"), other.release("low"), self.project.put(CELL))))
        self.assertEqual((self.project.text(), self.project.wishes()), (CELL + TOP, ()))
        self.assertEqual(len(ways_of(self.project)[0]), 2)

    def test_of_other_projects(self):
        other = Project(CELL + TOP)
        self.fails_and_stays(Odd, self.project.attempt, lambda project: (other.wish("few"), self.falls_now()))
        self.assertEqual(other.wishes(), ("few",))
        self.assertEqual(len(ways_of(other)[0]), 1)

    def falls_now(self):
        raise Odd


class Model:
    """What undo, redo, attempt and trial must do, by lists of all that is kept: apart from the program."""

    def __init__(self, kept):
        self.kept = kept
        self.back = []
        self.forth = []

    def now(self, kept):
        if kept != self.kept:
            self.back.append(self.kept)
            self.kept = kept
            self.forth = []

    def undo(self):
        if self.back:
            self.forth.append(self.kept)
            self.kept = self.back.pop()

    def redo(self):
        if self.forth:
            self.back.append(self.kept)
            self.kept = self.forth.pop()


class ByARule(unittest.TestCase):
    TEXTS = (CELL, LESS, WORSE, TOP, WITHOUT, CELL + TOP, LESS + WITHOUT, "module last\nend\n", "x")

    def act(self, rule, project, model, depth):
        """Does something with a project, and what it must do with the model."""
        kind = rule.pick(10)
        if kind < 5:
            call, value = (
                (project.put, rule.one_of(self.TEXTS)), (project.wish, rule.one_of(("few", "low", "bad", "at"))),
                (project.release, rule.one_of(("few", "low"))), (project.drop, rule.one_of(("last", "top", "cell"))),
                (project.wish, "few"))[kind]
            try:
                call(value)
            except CycleError:
                pass
            model.now(told_of(project))
        elif kind < 8:
            call, other = ((project.undo, model.undo), (project.redo, model.redo), (project.undo, model.undo))[kind - 5]
            try:
                call()
            except (NothingToUndo, NothingToRedo):
                pass
            other()
        elif depth < 3:
            self.within(rule, project, model, depth, kind == 8)

    def within(self, rule, project, model, depth, stays):
        inner = Model(model.kept)
        fails = rule.pick(4) == 0

        def action(same):
            for _ in range(rule.pick(6)):
                self.act(rule, same, inner, depth + 1)
                self.hold(same, inner)
            if fails:
                raise Worst

        try:
            (project.attempt if stays else project.trial)(action)
        except Worst:
            self.assertTrue(fails)
        if stays and not fails:
            model.now(inner.kept)

    def hold(self, project, model):
        self.assertEqual(told_of(project), model.kept)
        self.assertEqual(ways_of(project), (model.back[::-1], model.forth[::-1]))

    def test_many_acts(self):
        lengths = []
        for number in range(25):
            rule = Rule(number + 10100)
            project = Project(CELL + TOP if rule.pick(4) else "")
            model = Model(told_of(project))
            for _ in range(40):
                self.act(rule, project, model, 0)
                self.hold(project, model)
                self.assertIs(is_project_right(project), True)
            lengths.append(len(model.back))
        self.assertGreater(sum(lengths), 50)


if __name__ == "__main__":
    unittest.main()
