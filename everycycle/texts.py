"""Texts of designs: read, and told."""

from everycycle.errors import BadLine
from everycycle.expressions import read_expression
from everycycle.readers import Reader
from everycycle.writing import item_text


def read_width(reader):
    """Reads what stands behind the word of an input: all that an item of this word has, as all that follow do."""
    name = reader.take_name()
    reader.take_sign(":")
    return (name, reader.take_whole())


def read_reg(reader):
    """Reads a reg."""
    name, width = read_width(reader)
    reader.take_sign("=")
    return (name, width, reader.take_whole())


def read_memory(reader):
    """Reads a memory."""
    name, width = read_width(reader)
    reader.take_word(("by",))
    return (name, width, reader.take_whole())


def read_signal(reader):
    """Reads a wire or an output."""
    name, width = read_width(reader)
    return (name, width, read_value(reader))


def read_value(reader):
    """Reads a sign = and the expression behind it."""
    reader.take_sign("=")
    return read_expression(reader)


def read_use(reader):
    """Reads a use."""
    name = reader.take_name()
    reader.take_sign(":")
    module = reader.take_name()
    reader.take_sign("(")
    ports = ()
    if reader.skip() != ")":
        ports = read_ports(reader)
    reader.take_sign(")")
    return (name, module, ports)


def read_ports(reader):
    """Reads one port or more of a use."""
    ports = [read_led(reader)]
    while reader.skip() == ",":
        reader.take_sign(",")
        ports.append(read_led(reader))
    return tuple(ports)


def read_led(reader):
    """Reads a next, or a port of a use: a name and what leads to it."""
    name = reader.take_name()
    return (name, read_value(reader))


def read_write(reader):
    """Reads a write."""
    memory = reader.take_name()
    reader.take_sign("[")
    address = read_expression(reader)
    reader.take_sign("]")
    written = read_value(reader)
    reader.take_word(("when",))
    return (memory, read_expression(reader), address, written)


ITEM_READERS = {
    "input": read_width, "reg": read_reg, "memory": read_memory, "wire": read_signal, "output": read_signal,
    "use": read_use, "next": read_led, "write": read_write,
}


def read_module(reader):
    """Reads a line of module and tells the name."""
    reader.take_word(("module",))
    name = reader.take_name()
    reader.take_end()
    return name


def read_inner(reader):
    """Reads a line within a module: an item, or None for its end."""
    word = reader.take_word((*list(ITEM_READERS), "end"))
    if word == "end":
        reader.take_end()
        return None
    action = ITEM_READERS[word]
    fields = action(reader)
    reader.take_end()
    return (word, *fields)


def lines_of(text):
    """The lines of a text; behind the last line end there is none."""
    lines = text.split("\n")
    if lines[-1] == "":
        lines.pop()
    return lines


def design_of(text):
    """The design of a text."""
    if not isinstance(text, str):
        raise BadLine(0, 0)
    modules = []
    name = None
    items = []
    lines = lines_of(text)
    for number, line in enumerate(lines, start=1):
        reader = Reader(line, number)
        if reader.skip() == "":
            continue
        if name is None:
            name = read_module(reader)
            items = []
            continue
        item = read_inner(reader)
        if item is None:
            modules.append(("module", name, tuple(items)))
            name = None
        else:
            items.append(item)
    if name is not None or not modules:
        raise BadLine(len(lines) + 1, 1)
    return tuple(modules)


def design_text(design):
    """The text of a design: the plain one of all that stand for it."""
    lines = []
    for _, name, items in design:
        lines.append(f"module {name}\n")
        for item in items:
            lines.append(f"  {item_text(item)}\n")
        lines.append("end\n")
    return "".join(lines)
