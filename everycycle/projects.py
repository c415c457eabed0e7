"""A design and the wishes for it that stand, with their papers."""

from everycycle.bits import machine_of
from everycycle.cycles import reset_of, run_from
from everycycle.designs import check
from everycycle.errors import BadNumber, Missing, NoName, NotKept, NothingToRedo, NothingToUndo, TakenName
from everycycle.flats import flat
from everycycle.judge import Kept, is_kept
from everycycle.kinds import is_between
from everycycle.pairs import free_name, settled
from everycycle.states import greatest, is_wish, output_called, top_items, top_of
from everycycle.texts import design_of, design_text


def modules_told(text):
    """The modules of a text that may be without any."""
    if isinstance(text, str) and text.strip(" \n") == "":
        return ()
    return design_of(text)


def put_among(modules, new):
    """The modules with new ones, each in the place of the one with its name, or behind all others."""
    told = {module[1]: module for module in modules}
    for module in new:
        told[module[1]] = module
    return tuple(told.values())


def need_unlike_names(modules):
    """Raises the error of the first name that a module ahead has."""
    names = {}
    for _, name, _ in modules:
        if name in names:
            raise TakenName(name)
        names[name] = True


def is_kept_for(modules, name, paper):
    """Whether a paper shows that the top of the modules has an output of one bit that is 1 in all cycles."""
    return is_wish(modules, name) and is_kept(machine_of(flat(modules), name), paper)


def paper_for(modules, name, paper):
    """The paper of a wish for other modules: the same one if it will do, otherwise a new one."""
    if is_kept_for(modules, name, paper):
        return paper
    told = settled(modules, name)
    if not isinstance(told, Kept):
        raise NotKept(name, told.rows)
    return told


class Project:
    """A design, perhaps without modules, and wishes for it.

    held is the pair (modules, wishes) that stands, a wish being a pair (name, paper); past are those that stood ahead
    of each edit, ahead those that were taken back.
    """

    def __init__(self, text=""):
        modules = modules_told(text)
        check(modules)
        self.held = (modules, ())
        self.past = ()
        self.ahead = ()

    def turn_to(self, held):
        """Has modules and wishes stand: an edit, if something is another one then."""
        if held != self.held:
            self.past = (*self.past, self.held)
            self.ahead = ()
            self.held = held

    def turn_modules(self, modules):
        """Has other modules stand, if they have a meaning and all wishes are kept."""
        check(modules)
        _, wishes = self.held
        self.turn_to((modules, tuple([(name, paper_for(modules, name, paper)) for name, paper in wishes])))

    def put(self, text):
        """Puts the modules of a text."""
        new = design_of(text)
        need_unlike_names(new)
        self.turn_modules(put_among(self.held[0], new))

    def drop(self, name):
        """Takes a module out."""
        if not isinstance(name, str) or name not in self.names():
            raise NoName(name)
        self.turn_modules(tuple([module for module in self.held[0] if module[1] != name]))

    def wish(self, name):
        """Settles a wish, tells the answer, and has it stand if it is kept."""
        modules, wishes = self.held
        told = settled(modules, name)
        if isinstance(told, Kept) and name not in self.wishes():
            self.turn_to((modules, (*wishes, (name, told))))
        return told

    def release(self, name):
        """Has a wish stand no longer."""
        self.paper(name)
        modules, wishes = self.held
        self.turn_to((modules, tuple([pair for pair in wishes if pair[0] != name])))

    def text(self):
        """The text of all modules."""
        return design_text(self.held[0])

    def names(self):
        """The names of the modules."""
        return tuple([name for _, name, _ in self.held[0]])

    def wishes(self):
        """The names of the wishes that stand."""
        return tuple([name for name, _ in self.held[1]])

    def paper(self, name):
        """The paper of a wish that stands."""
        for wish, paper in self.held[1]:
            if isinstance(name, str) and wish == name:
                return paper
        raise NoName(name)

    def run(self, inputs):
        """The run of the design with rows of inputs."""
        design = self.held[0]
        return run_from(design, reset_of(design, top_of(design)), inputs)

    def may_be(self, name, value):
        """The pair (True, rows), if an output has a word in some cycle of some run, or (False, paper)."""
        modules = self.held[0]
        item = output_called(modules, name)
        if item is None:
            raise Missing(name)
        if not is_between(value, 0, greatest(item[2])):
            raise BadNumber("value", value)
        never = free_name("never", {item[1]: True for item in top_items(modules)})
        told = settled(with_never(modules, never, item, value), never)
        return (False, told) if isinstance(told, Kept) else (True, told.rows)

    def undo(self):
        """Takes back the last edit."""
        if self.past == ():
            raise NothingToUndo()
        self.ahead = (*self.ahead, self.held)
        self.held = self.past[-1]
        self.past = self.past[:-1]

    def redo(self):
        """Does again the edit that was taken back last."""
        if self.ahead == ():
            raise NothingToRedo()
        self.past = (*self.past, self.held)
        self.held = self.ahead[-1]
        self.ahead = self.ahead[:-1]

    def attempt(self, action):
        """What a function tells of the project; all its edits become one, or none if it raises an error."""
        told, held = self.tried(action)
        self.turn_to(held)
        return told

    def trial(self, action):
        """What a function tells of the project, which is then as it was."""
        return self.tried(action)[0]

    def tried(self, action):
        """The pair of what a function tells and of what it leaves; the project is then as it was."""
        held, past, ahead = self.held, self.past, self.ahead
        self.past = ()
        self.ahead = ()
        try:
            told = action(self)
            left = self.held
        finally:
            self.held, self.past, self.ahead = held, past, ahead
        return told, left


def with_never(modules, never, item, value):
    """The modules with one output more at the end of the top: that an output has not a word."""
    _, name, width, _ = item
    kind, top, items = modules[-1]
    wish = ("not", ("equal", ("name", name), ("number", width, value)))
    return (*modules[:-1], (kind, top, (*items, ("output", never, 1, wish))))


def is_project_right(project):
    """Whether the judge takes the paper of each wish for the design as it stands."""
    modules, wishes = project.held
    return all([is_kept_for(modules, name, paper) for name, paper in wishes])
