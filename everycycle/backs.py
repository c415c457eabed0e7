"""Runs in the words of a design, told back; and which bits of a run's inputs matter."""

from everycycle.bits import machine_of, number_bits, word_number
from everycycle.clauses import clause_of, clauses_of, unrolled
from everycycle.cycles import cycle, reset_of, run, word_at
from everycycle.errors import BadLine, BadRow, NoName
from everycycle.flats import flat
from everycycle.kinds import are_rows_of_bits, row_kept
from everycycle.lines import is_refutation
from everycycle.lots import cut_up
from everycycle.search import Search
from everycycle.solver import solve
from everycycle.states import are_word_rows, greatest, input_widths, is_wish, of_kinds, top_items, top_of


def first_fall(design, w, rows):
    """The number of the first cycle in which an output is 0; None if there is none."""
    need_wish(design, w)
    for n, (_, signals) in enumerate(run(design, rows)):
        if word_at(signals, w) == 0:
            return n
    return None


def need_wish(design, w):
    """Raises the error of what is no name of an output of one bit."""
    if not is_wish(design, w):
        raise NoName(w)


def widths_of_inputs(design):
    """The widths of the inputs of the top, in order."""
    return input_widths(top_items(design))


def need_rows(design, rows):
    """Raises the error of what is no row of rows of inputs of the top."""
    if not are_word_rows(rows, widths_of_inputs(design)):
        raise BadRow(rows)


def words_of(design, rows):
    """The rows of words of inputs for rows of bits."""
    widths = widths_of_inputs(design)
    if not are_rows_of_bits(rows, sum(widths)):
        raise BadRow(rows)
    return tuple([words_in(widths, row) for row in rows])


def words_in(widths, bits):
    """The words of these widths that bits stand for, one behind another."""
    told, first = [], 0
    for width in widths:
        told.append(word_number(bits[first:first + width]))
        first += width
    return tuple(told)


def bits_of(design, rows):
    """The rows of bits of inputs for rows of words."""
    need_rows(design, rows)
    widths = widths_of_inputs(design)
    return tuple([bits_in(widths, row) for row in rows])


def bits_in(widths, words):
    """The bits of words of these widths, one behind another."""
    return tuple([bit for width, word in zip(widths, words) for bit in number_bits(width, word)])


def cycle_line(names, n, words):
    """The line of cycle n, without its line end."""
    return " ".join([f"cycle {n}:", *[f"{name}={word}" for name, word in zip(names, words)]])


def run_text(design, rows):
    """The text of rows of inputs."""
    need_rows(design, rows)
    names = [item[1] for item in of_kinds(top_items(design), ("input",))]
    return "".join([f"{cycle_line(names, n, row)}\n" for n, row in enumerate(rows)])


def rows_of(design, text):
    """The rows of inputs that a text tells."""
    if not isinstance(text, str):
        raise BadLine(0, 0)
    inputs = of_kinds(top_items(design), ("input",))
    lines = text.split("\n")
    told = []
    for n, line in enumerate(lines):
        words = words_told(inputs, n, line)
        if n == len(lines) - 1 and line == "":
            break
        if words is None or n == len(lines) - 1:
            raise BadLine(n + 1, 1)
        told.append(words)
    return tuple(told)


def words_told(inputs, n, line):
    """The words of inputs that the line of cycle n tells; None if it is no such line."""
    words = []
    for part in line.split(" ")[2:]:
        words.append(number_told(part.partition("=")[2]))
    if not are_words_known(words, inputs):
        return None
    return tuple(words) if cycle_line([item[1] for item in inputs], n, words) == line else None


def number_told(digits):
    """The number that digits tell; None for what is no row of a few digits."""
    few = len(digits) > 0 and len(digits) <= len(str(greatest(64)))
    if not few or not all(["0" <= sign <= "9" for sign in digits]):
        return None
    return int(digits)


def are_words_known(words, inputs):
    """Whether numbers, or None, are words for the inputs."""
    if len(words) != len(inputs):
        return False
    return all([word is not None and word <= greatest(item[2]) for word, item in zip(words, inputs)])


def changes(design, rows, names):
    """The triples (cycle, name, word) of the words of signals that are others than in the cycle ahead."""
    need_rows(design, rows)
    need_signals(design, names)
    told, ahead = [], {}
    for n, (_, signals) in enumerate(run(design, rows)):
        here = {name: word for name, word in signals}
        told.extend([(n, name, here[name]) for name in names if n == 0 or here[name] != ahead[name]])
        ahead = here
    return tuple(told)


def need_signals(design, names):
    """Raises the error of the first name that is no signal of the top."""
    top = top_of(design)
    signals, _ = cycle(design, top, reset_of(design, top), [0] * len(widths_of_inputs(design)))
    for name in names:
        word_at(signals, name)


def filling(rows, mask, others):
    """The rows with the bits of others where the mask has none."""
    told = []
    for row, kept, other in zip(rows, mask, others):
        told.append(tuple([open_word ^ (word ^ open_word) & bits for word, bits, open_word in zip(row, kept, other)]))
    return tuple(told)


class Open:
    """A mask of the bits that must be kept, and lines that show that they are enough."""

    def __init__(self, mask, lines):
        self.mask = row_kept(mask)
        self.lines = row_kept(lines)


def cycles_told(design, w, many):
    """So many cycles from reset of the machine of a design and an output."""
    return unrolled(machine_of(flat(design), w), many, False)


def leaf_literals(design, rows):
    """For each bit of the rows, in order, the literal that says that its leaf is so."""
    bits = [bit for row in bits_of(design, rows) for bit in row]
    return [n if bit == 1 else -n for n, bit in enumerate(bits, start=1)]


def wish_clauses(told):
    """For each cycle the clause that its wish is 1, if there is one."""
    asked = [clause_of((wish,)) for wish in told.wishes]
    return [clause for clause in asked if clause is not None]


def open_bits(design, w, rows):
    """Open, for rows with which an output falls in the last cycle alone: bit by bit opened as far as it goes."""
    fall = first_fall(design, w, rows)
    if fall is None or fall + 1 < len(rows):
        raise BadRow(rows)
    told = cycles_told(design, w, len(rows))
    search = Search(told.graph.leaves + len(told.graph.gates), (*clauses_of(told.graph), *wish_clauses(told)))
    kept = leaf_literals(design, rows)
    for literal in list(kept):
        fewer = [other for other in kept if other != literal]
        if not search.answer(fewer):
            kept = fewer
    standing = {abs(literal): True for literal in kept}
    bits = [1 if n in standing else 0 for n in range(1, told.graph.leaves + 1)]
    size = sum(widths_of_inputs(design))
    mask = words_of(design, cut_up(bits, size, len(rows)))
    clauses = clauses_for(design, w, rows, mask)
    return Open(mask, solve(told.graph.leaves + len(told.graph.gates), clauses).lines)


def clauses_for(design, w, rows, mask):
    """The clauses of the cycles, of the kept bits, and of the wish in each cycle."""
    need_wish(design, w)
    leaves, kept = leaf_literals(design, rows), leaf_literals(design, mask)
    literals = [literal for literal, place in zip(leaves, kept) if place > 0]
    told = cycles_told(design, w, len(rows))
    return (*clauses_of(told.graph), *[(literal,) for literal in literals], *wish_clauses(told))


def is_enough(design, w, rows, mask, lines):
    """Whether any value is lines that show that a mask is enough."""
    return is_refutation(clauses_for(design, w, rows, mask), lines)
