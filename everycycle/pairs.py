"""Wishes settled for all runs, and two circuits that are alike for all runs."""

from everycycle.backs import first_fall, words_of
from everycycle.bits import machine_of
from everycycle.bounded import Broken
from everycycle.designs import check
from everycycle.errors import BadName, Missing, Unlike
from everycycle.flats import flat
from everycycle.frames import settle
from everycycle.judge import is_kept
from everycycle.kinds import has_tuples_alone, row_kept
from everycycle.states import are_word_rows, input_widths, is_wish, of_kinds, top_items, top_of

LONGEST_NAME = 12


class Fallen:
    """Rows of inputs of a design with which an output is 0 in the last cycle alone."""

    def __init__(self, rows):
        self.rows = row_kept(rows)


def need_output(design, name):
    """Raises the error of what is no name of an output of one bit of the top."""
    if not is_wish(design, name):
        raise Missing(name)


def settled(design, name):
    """Fallen, or Kept with a certificate that an output is 1 in all cycles of all runs."""
    need_output(design, name)
    told = settle(machine_of(flat(design), name))
    return Fallen(words_of(design, told.rows)) if isinstance(told, Broken) else told


def is_settled(design, name, told):
    """Whether any value is what settled describes."""
    need_output(design, name)
    if isinstance(told, Fallen):
        return is_fall(design, name, told.rows)
    return is_kept(machine_of(flat(design), name), told)


def is_fall(design, name, rows):
    """Whether any value is rows of inputs with which an output is 0 in the last cycle alone."""
    if not are_word_rows(rows, input_widths(top_items(design))) or not has_tuples_alone(rows):
        return False
    return len(rows) > 0 and first_fall(design, name, rows) == len(rows) - 1


def ports_of(design):
    """The pairs of names and widths of the inputs, and of the outputs, of the top."""
    items = top_items(design)
    return [[item[1:3] for item in of_kinds(items, (kind,))] for kind in ("input", "output")]


def free_name(name, taken):
    """A name, with signs _ behind as long as it is taken."""
    while name in taken:
        name = f"{name}_"
    return name


def with_mark(design, mark):
    """The modules of a design, with a mark ahead of their names."""
    told = []
    for _, name, items in design:
        told.append(("module", mark + name, tuple([marked_item(item, mark) for item in items])))
    return told


def marked_item(item, mark):
    """An item, with a mark ahead of the module's name in a use."""
    if item[0] != "use":
        return item
    _, name, module, ports = item
    return ("use", name, mark + module, ports)


def need_pair(one, other):
    """Raises the first error of two designs that can't be put side by side."""
    check(one)
    check(other)
    if ports_of(one) != ports_of(other) or ports_of(one)[1] == []:
        raise Unlike("ports")
    for _, name, _ in (*one, *other):
        if len(f"l_{name}") > LONGEST_NAME:
            raise BadName(name)


def pair_of(one, other):
    """The design of both, with the same inputs, and with an output that tells whether all of theirs are the same."""
    need_pair(one, other)
    inputs = of_kinds(top_items(one), ("input",))
    taken = {item[1]: True for item in inputs}
    left, right, same = [free_name(name, taken) for name in ("l", "r", "same")]
    ports = tuple([(item[1], ("name", item[1])) for item in inputs])
    parts = [("equal", ("port", left, name), ("port", right, name)) for name, _ in ports_of(one)[1]]
    whole = parts[0]
    for part in parts[1:]:
        whole = ("and", whole, part)
    items = (
        *inputs, ("use", left, f"l_{top_of(one)}", ports), ("use", right, f"r_{top_of(other)}", ports),
        ("output", same, 1, whole),
    )
    return (*with_mark(one, "l_"), *with_mark(other, "r_"), ("module", "pair", items))


def alike(one, other):
    """Fallen, with rows with which the outputs differ in the last cycle alone; or Kept: two designs are alike."""
    design = pair_of(one, other)
    return settled(design, top_items(design)[-1][1])
