"""[67], [68], [69]: runs in the words of a design, and the bits of their inputs that matter."""

import re
import unittest
from itertools import product

from everycycle.backs import (
    Open, bits_of, changes, clauses_for, filling, first_fall, is_enough, open_bits, rows_of, run_text, words_of,
)
from everycycle.bits import machine_of
from everycycle.clauses import clause_of, clauses_of, played, unrolled
from everycycle.cycles import run
from everycycle.errors import BadLine, BadRow, NoName
from everycycle.flats import flat
from everycycle.graphs import node_values
from everycycle.lines import is_refutation
from tests.anything import Own, anything, placed
from tests.asking import Asking
from tests.circuits import EMPTY, NESTED, PLAIN, WRITES
from tests.fixed import Rule
from tests.keeping import Keeping
from tests.meaning import small_design
from tests.nets import all_bits
from tests.plainly import inputs_of, plain_cycle
from tests.test_clauses import is_true
from tests.test_graphs import is_int, is_row
from tests.test_lines import bent, paths
from tests.test_runs import some_rows
from tests.wishes import KEYS, QUEUE, WORDS, Walk, counter_design, top_items, wish_design, wishes_of


def widths_of(design):
    return [item[2] for item in top_items(design) if item[0] == "input"]


def are_right_rows(design, value):
    """Whether a value is a row of rows of inputs, as tuples or lists."""
    widths = widths_of(design)
    return is_row(value) and all(
        is_row(row) and len(row) == len(widths) and all(is_int(word, 0, 2 ** width - 1) for word, width in zip(row, widths))
        for row in value)


class FirstFall(Asking, unittest.TestCase):
    def test_by_hand(self):
        keys = ((2, 0), (0, 0), (3, 0), (1, 0), (0, 0))
        for rows, told in ((keys, 4), (keys[:4], None), (keys[:1], None), ((), None), ((*keys, (0, 0)), 4),
                           (((0, 0), *keys), 5), (((2, 0), *keys), None), (((2, 0), (1, 1), *keys[1:]), 5)):
            self.assertEqual(first_fall(KEYS, "shut", rows), told, rows)
            self.assertEqual(first_fall(KEYS, "shut", [list(row) for row in rows]), told)
        self.assertEqual(first_fall(WORDS, "v", ((7, 0),)), 0)
        self.assertEqual(first_fall(WORDS, "v", ((6, 2), (7, 1), (6, 3))), 2)
        self.assertIsNone(first_fall(PLAIN, "w", ((), ())))

    def test_against_the_plain_meaning(self):
        counts = {}
        for number in range(150):
            design = wish_design(Rule(number + 9000))
            walk, rule = Walk(design), Rule(number)
            rows = some_rows(design, rule, rule.pick(9))
            for name in wishes_of(design):
                words = [signals[name] for signals in walk.signals(rows)]
                told = first_fall(design, name, rows)
                self.assertEqual(told, words.index(0) if 0 in words else None)
                kind = None if told is None else min(told, 2)
                counts[kind] = counts.get(kind, 0) + 1
        self.assertTrue(all(counts.get(kind, 0) > 9 for kind in (None, 0, 1, 2)), counts)

    def test_names_go_ahead_of_rows(self):
        for name in ("o", "out", "both", "p.both", "x", "on", "r", "p", "top", "", "W", "w ", None, 0, ("w",)):
            for rows in ((), None, ((0, 0),), ((9, 9),)):
                self.assertFails(NoName, {"name": name}, first_fall, NESTED, name, rows)
                self.assertFails(NoName, {"name": name}, open_bits, NESTED, name, rows)
        for name in anything():
            self.assertFails(NoName, {"name": name}, first_fall, KEYS, name, name)
            self.assertFails(NoName, {"name": name}, open_bits, KEYS, name, name)
        self.assertFails(NoName, {"name": "seen"}, first_fall, counter_design(0, 7, 7), "seen", ())
        self.assertFails(NoName, {"name": "w"}, first_fall, EMPTY, "w", ())

    def test_wrong_rows(self):
        for value in anything():
            for rows in (value, (value,), [(0, 0), value], ((value, 0),), ((0, 0), (0, value)), ((3, value),)):
                if are_right_rows(KEYS, rows):
                    self.assertIsNone(first_fall(KEYS, "shut", rows))
                else:
                    for call, more in ((first_fall, ("shut", rows)), (bits_of, (rows,)), (run_text, (rows,)), (changes, (rows, None)),
                                       (open_bits, ("shut", rows))):
                        self.assertFails(BadRow, {"row": rows}, call, KEYS, *more)
        for rows in (((4, 0),), ((0, 2),), ((0,),), ((0, 0, 0),), ((-1, 0),), ((True, 0),), (0, 0), None, "", {}):
            self.assertFails(BadRow, {"row": rows}, first_fall, KEYS, "shut", rows)


class WordsAndBits(Asking, unittest.TestCase):
    def test_by_hand(self):
        bits = ((1, 0, 1, 0, 1), (0, 1, 1, 1, 1))
        words = ((5, 2), (6, 3))
        self.assertEqual(words_of(WORDS, bits), words)
        self.assertEqual(bits_of(WORDS, words), bits)
        self.assertEqual(words_of(WORDS, [list(row) for row in bits]), words)
        self.assertEqual(bits_of(WORDS, [list(row) for row in words]), bits)
        for design in (WORDS, KEYS, EMPTY, PLAIN):
            self.assertEqual(words_of(design, ()), ())
            self.assertEqual(bits_of(design, []), ())
        self.assertEqual(words_of(EMPTY, ((), [])), ((), ()))
        self.assertEqual(bits_of(PLAIN, ((),)), ((),))

    def test_there_and_back(self):
        for number in range(80):
            design = small_design(number)
            widths, rule = widths_of(design), Rule(number + 1)
            rows = some_rows(design, rule, rule.pick(5))
            bits = bits_of(design, rows)
            wanted = tuple(tuple(word >> k & 1 for word, width in zip(row, widths) for k in range(width)) for row in rows)
            self.assertEqual(bits, wanted)
            self.assertEqual(words_of(design, bits), rows)

    def test_they_are_the_machine_s(self):
        for number in range(60):
            design = wish_design(Rule(number + 9100))
            rows = some_rows(design, Rule(number), 6)
            for name in wishes_of(design):
                told = played(machine_of(flat(design), name), bits_of(design, rows))
                words = [dict(signals)[name] for _, signals in run(design, rows)]
                self.assertEqual([wish for _, wish in told], words)

    def test_wrong_bits(self):
        right = ((1, 0, 1, 0, 1), (0, 1, 1, 1, 1))
        for value in anything():
            for rows in (value, (value,), placed(right, 1, value), placed(right, 0, placed(right[0], 2, value)), [value, right[0]]):
                if is_row(rows) and all(is_row(row) and len(row) == 5 and all(is_int(bit, 0, 1) for bit in row) for row in rows):
                    self.assertEqual(len(words_of(WORDS, rows)), len(rows))
                else:
                    self.assertFails(BadRow, {"row": rows}, words_of, WORDS, rows)
        for rows in (((1, 0, 1, 0),), ((1, 0, 1, 0, 2),), ((1, 0, 1, 0, True),), ((1, 0, 1, 0, 1, 0),), (1, 0), ((5, 2),)):
            self.assertFails(BadRow, {"row": rows}, words_of, WORDS, rows)


def plain_rows(design, text):
    """What rows_of must tell: the rows, or the number of the first wrong line."""
    inputs = [item for item in top_items(design) if item[0] == "input"]
    rows = []
    while text:
        head = "".join(f" {item[1]}=(0|[1-9][0-9]*)" for item in inputs)
        found = re.match(f"cycle {len(rows)}:{head}\n", text)
        if not found or any(int(word) >= 2 ** item[2] for word, item in zip(found.groups(), inputs)):
            return len(rows) + 1
        rows.append(tuple(int(word) for word in found.groups()))
        text = text[found.end():]
    return tuple(rows)


class Texts(Asking, unittest.TestCase):
    TEXT = "cycle 0: a=5 b=2\ncycle 1: a=0 b=3\n"

    def hold(self, design, text):
        wanted = plain_rows(design, text)
        if isinstance(wanted, tuple):
            self.assertEqual(rows_of(design, text), wanted, text)
            self.assertEqual(run_text(design, wanted), text)
        else:
            self.assertFails(BadLine, {"line": wanted, "column": 1}, rows_of, design, text, note=text)
        return isinstance(wanted, tuple)

    def test_by_hand(self):
        self.assertEqual(run_text(WORDS, ((5, 2), (0, 3))), self.TEXT)
        self.assertEqual(run_text(WORDS, [[5, 2], [0, 3]]), self.TEXT)
        self.assertEqual(rows_of(WORDS, self.TEXT), ((5, 2), (0, 3)))
        self.assertEqual(run_text(WORDS, ()), "")
        self.assertEqual(rows_of(WORDS, ""), ())
        self.assertEqual(run_text(PLAIN, ((), ())), "cycle 0:\ncycle 1:\n")
        self.assertEqual(rows_of(PLAIN, "cycle 0:\ncycle 1:\n"), ((), ()))
        self.assertEqual(rows_of(EMPTY, ""), ())

    def test_there_and_back(self):
        for number in range(80):
            design = small_design(number)
            rows = some_rows(design, Rule(number + 2), number % 13)
            text = run_text(design, rows)
            names = [item[1] for item in top_items(design) if item[0] == "input"]
            for k, (line, row) in enumerate(zip(text.split("\n"), rows)):
                self.assertEqual(line, f"cycle {k}:" + "".join(f" {name}={word}" for name, word in zip(names, row)))
            self.assertEqual(text.count("\n"), len(rows))
            self.assertEqual(rows_of(design, text), rows)

    def test_wrong_texts(self):
        for text, line in (
            ("\n", 1), (" ", 1), ("cycle 0: a=5 b=2", 1), (self.TEXT[:-1], 2), (self.TEXT + "\n", 3), (self.TEXT + "x", 3),
            (self.TEXT + " \n", 3), ("\n" + self.TEXT, 1), (self.TEXT.replace("cycle 1", "cycle 2"), 2), (self.TEXT.replace("a=5", "a=05"), 1),
            (self.TEXT.replace("a=5", "a=8"), 1), (self.TEXT.replace("b=3", "b=4"), 2), (self.TEXT.replace("b=3", "b=-1"), 2),
            (self.TEXT.replace("b=3", "b="), 2), (self.TEXT.replace("b=3", "b=3 "), 2), (self.TEXT.replace(" b=3", ""), 2),
            (self.TEXT.replace("b=3", "c=3"), 2), (self.TEXT.replace("a=0 b=3", "b=3 a=0"), 2), (self.TEXT.replace("0:", "00:"), 1),
            (self.TEXT.replace(": ", ":"), 1), (self.TEXT.replace("cycle", "Cycle"), 1), (self.TEXT.replace("=", " = "), 1),
            (self.TEXT.split("\n")[1] + "\n", 1), (self.TEXT * 2, 3), (self.TEXT.replace("b=3", "b=3 b=3"), 2),
            (self.TEXT.replace("a=5", "a=" + "9" * 30), 1), (self.TEXT.replace("a=5", "a=" + "9" * 5000), 1),
            (self.TEXT.replace("a=5", "a=0" + "0" * 5000), 1), (self.TEXT.replace("\n", "\n\n"), 2), (self.TEXT.replace("\n", ""), 1),
            (self.TEXT.replace("a=5", "a=+5"), 1), (self.TEXT.replace("a=5", "a=5_"), 1), (self.TEXT.replace("a=5", "a==5"), 1),
        ):
            self.assertFails(BadLine, {"line": line, "column": 1}, rows_of, WORDS, text, note=text[:60])
        self.assertFails(BadLine, {"line": 1, "column": 1}, rows_of, PLAIN, "cycle 0: \n")
        self.assertFails(BadLine, {"line": 1, "column": 1}, rows_of, PLAIN, "cycle 0:")
        self.assertFails(BadLine, {"line": 2, "column": 1}, rows_of, PLAIN, "cycle 0:\ncycle 0:\n")

    def test_each_sign_changed(self):
        right = wrong = 0
        long = run_text(KEYS, [(k % 4, k % 2) for k in range(12)])
        for design, text in ((WORDS, self.TEXT), (KEYS, long), (PLAIN, "cycle 0:\ncycle 1:\n")):
            for place in range(len(text) + 1):
                for sign in ("", *"0123 =:abcy\n"):
                    for other in (text[:place] + sign + text[place:], text[:place] + sign + text[place + 1:]):
                        told = self.hold(design, other)
                        right, wrong = right + told, wrong + (not told)
                self.hold(design, text[:place])
                self.hold(design, text[place:])
            for line in text.split("\n")[:-1]:
                self.hold(design, text.replace(line + "\n", ""))
        self.assertTrue(right > 100 and wrong > 1000, (right, wrong))

    def test_no_strings(self):
        for value in anything():
            if value.__class__ is not str:
                self.assertFails(BadLine, {"line": 0, "column": 0}, rows_of, WORDS, value)


class Changes(Asking, unittest.TestCase):
    def hold(self, design, rows, names):
        told, ahead, state = [], None, None
        for n, (_, signals) in enumerate(run(design, rows)):
            words = dict(signals)
            told.extend((n, name, words[name]) for name in names if ahead is None or words[name] != ahead[name])
            ahead = words
        self.assertEqual(changes(design, rows, names), tuple(told))
        self.assertEqual(changes(design, [list(row) for row in rows], list(names)), tuple(told))
        return told

    def test_by_hand(self):
        rows = ((5, 2), (5, 2), (0, 2), (1, 0))
        self.assertEqual(changes(WORDS, rows, ("sum", "two", "sum")), (
            (0, "sum", 5), (0, "two", 0), (0, "sum", 5), (1, "sum", 7), (1, "two", 2), (1, "sum", 7), (2, "sum", 2), (2, "sum", 2),
            (3, "sum", 3), (3, "sum", 3)))
        self.assertEqual(changes(WORDS, (), ("sum", "two")), ())
        self.assertEqual(changes(WORDS, rows, ()), ())
        self.assertEqual(changes(PLAIN, ((), (), ()), ["w"]), ((0, "w", 1),))

    def test_against_runs(self):
        with_dots = 0
        for number in range(120):
            design = small_design(number)
            rule = Rule(number + 3)
            rows = some_rows(design, rule, rule.pick(7))
            signals, _ = plain_cycle(design, design[-1][1], run(design, [[0] * len(widths_of(design))])[0][0], inputs_of(design, design[-1][1], rule))
            names = [name for name, _ in signals]
            some = [rule.one_of(names) for _ in range(rule.pick(6))] if names else []
            with_dots += any("." in name for name in some)
            self.hold(design, rows, names)
            self.hold(design, rows, some)
        self.assertGreater(with_dots, 10)

    def test_wrong_names(self):
        right = ("w", "p.both", "p.one.low", "p.add", "p.one.step")
        self.hold(NESTED, ((3, 1), (0, 0)), right)
        for name in ("x", "on", "r", "p", "p.one", "p.one.count", "p.m", "both", "", "w.", ".w", None, 0, ("w",)):
            for rows in ((), ((0, 0),)):
                self.assertFails(NoName, {"name": name}, changes, NESTED, rows, (name,))
                self.assertFails(NoName, {"name": name}, changes, NESTED, rows, ["w", name, "nothing"])
            self.assertFails(BadRow, {"row": ((4, 0),)}, changes, NESTED, ((4, 0),), (name,))
        for name in anything():
            self.assertFails(NoName, {"name": name}, changes, NESTED, (), ("w", name))
            self.assertFails(NoName, {"name": name}, changes, NESTED, ((0, 0),), [name])


def all_fillings(design, rows, mask):
    """All fillings of rows by a mask."""
    widths = widths_of(design)
    words = [[[other for other in range(2 ** width) if (other ^ word) & kept == 0] for word, kept, width in zip(row, bits, widths)]
             for row, bits in zip(rows, mask)]
    return product(*[list(product(*cycle)) for cycle in words])


def is_plainly_enough(walk, name, rows, mask):
    """Whether the output falls with every filling, by a trial of all of them; those with one beginning are tried at once."""
    states = {walk.reset}
    for n in range(len(rows)):
        behind = set()
        for state in states:
            for (row,) in all_fillings(walk.design, rows[n:n + 1], mask[n:n + 1]):
                words, later = walk.cycle(state, row)
                if words[name] == 1:
                    behind.add(later)
        states = behind
    return not states


def plain_mask(walk, name, rows, enough):
    """The mask of [69], bit by bit."""
    widths = widths_of(walk.design)
    mask = [[2 ** width - 1 for width in widths] for _ in rows]
    for n in range(len(rows)):
        for at, width in enumerate(widths):
            for k in range(width):
                mask[n][at] ^= 1 << k
                if not enough(walk, name, rows, mask):
                    mask[n][at] ^= 1 << k
    return tuple(tuple(row) for row in mask)


def falls_of(design, rule, name, most=5, times=30):
    """Rows with which an output falls in their last cycle alone, made by the rule."""
    walk = Walk(design)
    for _ in range(times):
        rows = some_rows(design, rule, most)
        words = [signals[name] for signals in walk.signals(rows)]
        if 0 in words:
            yield rows[:words.index(0) + 1]


class Fillings(unittest.TestCase):
    def test_bit_by_bit(self):
        for number in range(80):
            design = small_design(number)
            widths, rule = widths_of(design), Rule(number + 4)
            many = rule.pick(5)
            rows, others, mask = (some_rows(design, rule, many) for _ in range(3))
            told = filling(rows, mask, others)
            self.assertEqual(len(told), many)
            for row, other, bits, found in zip(rows, others, mask, told):
                self.assertEqual((found.__class__, len(found)), (tuple, len(widths)))
                for word, open_word, kept, new, width in zip(row, other, bits, found, widths):
                    self.assertTrue(0 <= new < 2 ** width)
                    for k in range(width):
                        self.assertEqual(new >> k & 1, (word if kept >> k & 1 else open_word) >> k & 1)
            self.assertEqual(filling([list(row) for row in rows], [list(row) for row in mask], [list(row) for row in others]), told)
        self.assertEqual(filling((), (), ()), ())
        self.assertEqual(filling(((5, 2),), ((3, 2),), ((2, 1),)), ((1, 3),))


class OpenBits(Asking, Keeping, unittest.TestCase):
    def test_what_it_keeps(self):
        self.assertKeeps(Open, "mask", "lines")

    def hold(self, design, name, rows, enough=is_plainly_enough):
        """open_bits must tell the one mask, and a refutation; tells how many bits are kept."""
        walk = Walk(design)
        self.assertTrue(walk.falls_last(name, rows))
        told = open_bits(design, name, rows)
        self.assertIs(told.__class__, Open)
        self.assertEqual(told.mask, plain_mask(walk, name, rows, enough))
        self.assertTrue(all(row.__class__ is tuple for row in told.mask))
        self.assertIs(is_refutation(clauses_for(design, name, rows, told.mask), told.lines), True)
        self.assertIs(is_enough(design, name, rows, told.mask, told.lines), True)
        other = open_bits(design, name, [list(row) for row in rows])
        self.assertEqual((other.mask, other.lines), (told.mask, told.lines))
        return sum(word.bit_count() for row in told.mask for word in row)

    def test_by_hand(self):
        keys = ((2, 0), (0, 0), (3, 0), (1, 0), (0, 0))
        told = open_bits(KEYS, "shut", keys)
        self.assertEqual(told.mask, ((3, 1), (3, 1), (3, 1), (3, 1), (0, 0)))
        told = open_bits(WORDS, "w", ((4, 0), (0, 3), (5, 1)))
        self.assertEqual(told.mask, ((4, 0), (0, 3), (7, 0)))
        told = open_bits(QUEUE, "few", ((1, 0), (1, 0), (1, 1)))
        self.assertEqual(told.mask, ((1, 0), (1, 1), (0, 0)))
        never = counter_design(3, 7, 3)
        self.assertEqual(open_bits(never, "good", ((1,),)).mask, ((0,),))

    def test_against_a_trial_of_all_fillings(self):
        """Each filling by itself, run by the plain meaning."""
        def enough(walk, name, rows, mask):
            return all(0 in [words[name] for words in walk.signals(other)] for other in all_fillings(walk.design, rows, mask))

        many = 0
        for design, name in ((WORDS, "v"), (QUEUE, "zeros"), (QUEUE, "few"), (KEYS, "shut"), (counter_design(5, 6, 0), "good")):
            for rows in list(falls_of(design, Rule(5), name, 4))[:6]:
                if len(rows) * sum(widths_of(design)) <= 10:
                    self.hold(design, name, rows, enough)
                    many += 1
        self.assertGreater(many, 10)

    def test_against_walks(self):
        counts = {}
        for number in range(120):
            design = wish_design(Rule(number + 9200))
            for name in wishes_of(design):
                for rows in list(falls_of(design, Rule(number), name, 5, 6))[:3]:
                    kept = self.hold(design, name, rows)
                    kind = (min(len(rows), 3), min(kept, 3))
                    counts[kind] = counts.get(kind, 0) + 1
        for design, name in ((WORDS, "w"), (WORDS, "v"), (QUEUE, "few"), (QUEUE, "zeros"), (KEYS, "shut")):
            for rows in list(falls_of(design, Rule(6), name, 8, 60))[:5]:
                self.hold(design, name, rows)
        self.assertGreater(len(counts), 5, counts)

    def test_wrong_rows(self):
        keys = ((2, 0), (0, 0), (3, 0), (1, 0), (0, 0))
        for rows in ((), [], keys[:4], keys[:1], (*keys, (0, 0)), (*keys[:3], (0, 0), (0, 0)), ((2, 0), *keys), keys + keys):
            self.assertFails(BadRow, {"row": rows}, open_bits, KEYS, "shut", rows)
        for rows in (((2, 0),), ((9, 0),), None, [[2, 0]]):
            self.assertFails(BadRow, {"row": rows}, open_bits, KEYS, "low", rows)

    def test_any_mask_with_more_bits_is_enough(self):
        rows = ((4, 0), (0, 3), (5, 1))
        told = open_bits(WORDS, "w", rows)
        walk = Walk(WORDS)
        for number in range(40):
            rule = Rule(number)
            mask = tuple(tuple(word | rule.pick(2 ** width) for word, width in zip(row, (3, 2))) for row in told.mask)
            self.assertTrue(is_plainly_enough(walk, "w", rows, mask))
            less = tuple(tuple(word & (rule.pick(2 ** width) | rule.pick(2 ** width)) for word, width in zip(row, (3, 2))) for row in told.mask)
            self.assertIs(is_plainly_enough(walk, "w", rows, less), less == told.mask)


class Clauses(unittest.TestCase):
    def hold(self, design, name, rows, mask):
        """The clauses must be those of [69], satisfied exactly by runs of fillings with the wish 1 in all cycles."""
        machine = machine_of(flat(design), name)
        whole = unrolled(machine, len(rows), False)
        told = clauses_for(design, name, rows, mask)
        size = sum(widths_of(design))
        bits = [(n + 1, row[n % size]) for n, row in ((n, bits_of(design, rows)[n // size]) for n in range(size * len(rows)))]
        kept = [bit for row in bits_of(design, mask) for bit in row]
        wanted = [(n if bit else -n,) for (n, bit), stays in zip(bits, kept) if stays]
        wishes = [clause_of((wish,)) for wish in whole.wishes]
        self.assertEqual(told, (*clauses_of(whole.graph), *wanted, *[clause for clause in wishes if clause is not None]))
        self.assertEqual(clauses_for(design, name, [list(row) for row in rows], [list(row) for row in mask]), told)
        walk = Walk(design)
        if size * len(rows) > 9:
            return 0
        fillings = set(all_fillings(design, rows, mask))
        right = 0
        for leaves in all_bits(size * len(rows)):
            other = words_of(design, [leaves[k * size:(k + 1) * size] for k in range(len(rows))])
            assignment = node_values(whole.graph, leaves)[1:]
            stays = other in fillings and all(words[name] == 1 for words in walk.signals(other))
            self.assertIs(all(is_true(assignment, clause) for clause in told), stays)
            right += stays
        return right

    def test_by_values(self):
        right = 0
        for number in range(80):
            design = wish_design(Rule(number + 9300))
            rule = Rule(number)
            rows, mask = (some_rows(design, rule, rule.pick(4)) for _ in range(2))
            mask = tuple(mask[k] if k < len(mask) else tuple(0 for _ in row) for k, row in enumerate(rows))
            for name in wishes_of(design):
                right += self.hold(design, name, rows, mask)
        for design, name in ((WORDS, "w"), (KEYS, "shut"), (QUEUE, "few")):
            rule = Rule(7)
            self.hold(design, name, some_rows(design, rule, 3), some_rows(design, rule, 3))
        self.assertGreater(right, 1000)

    def test_constant_wishes_and_no_cycles(self):
        self.hold(PLAIN, "w", ((), ()), ((), ()))
        self.hold(KEYS, "shut", (), ())
        # The wish is 0 in the first cycle, whatever comes: that clause is empty; in the second one of a constant none stands.
        self.hold(counter_design(3, 7, 3), "good", ((1,), (0,)), ((1,), (0,)))
        self.assertIn((), clauses_for(counter_design(3, 7, 3), "good", ((1,),), ((0,),)))


class Enough(Asking, unittest.TestCase):
    ROWS = ((4, 0), (0, 3), (5, 1))

    def setUp(self):
        self.told = open_bits(WORDS, "w", self.ROWS)

    def test_each_line_bent(self):
        clauses = clauses_for(WORDS, "w", self.ROWS, self.told.mask)
        right = wrong = 0
        for path in paths(self.told.lines):
            for value in (0, 1, -1, 2, True, None, "given", (), [], Own()):
                lines = bent(self.told.lines, path, value)
                wanted = is_refutation(clauses, lines)
                self.assertIs(is_enough(WORDS, "w", self.ROWS, self.told.mask, lines), wanted)
                right, wrong = right + wanted, wrong + (not wanted)
        self.assertTrue(right > 3 and wrong > 300, (right, wrong))

    def test_lines_of_other_masks(self):
        mask, lines = self.told.mask, self.told.lines
        less = placed(mask, 1, (0, 2))
        self.assertIs(is_enough(WORDS, "w", self.ROWS, less, lines), False)
        self.assertIs(is_enough(WORDS, "w", self.ROWS, placed(mask, 0, (0, 0)), lines), False)
        self.assertIs(is_enough(WORDS, "w", ((0, 0), (0, 3), (5, 1)), mask, lines), False)
        self.assertIs(is_enough(WORDS, "w", self.ROWS[:2], mask[:2], lines), False)
        self.assertIs(is_enough(WORDS, "w", [list(row) for row in self.ROWS], [list(row) for row in mask], lines), True)
        self.assertIs(is_enough(WORDS, "v", self.ROWS, mask, lines), False)

    def test_anything(self):
        mask, lines = self.told.mask, self.told.lines
        for value in (*anything(), Open(mask, lines), list(lines), lines[:-1], (), lines[::-1], [list(line) for line in lines]):
            self.assertIs(is_enough(WORDS, "w", self.ROWS, mask, value), False)
            self.assertIs(is_enough(WORDS, "w", self.ROWS, mask, (*lines[:-1], value)), False)

    def test_names(self):
        for name in ("two", "sum", "a", "", None, ["w"]):
            self.assertFails(NoName, {"name": name}, clauses_for, WORDS, name, self.ROWS, self.told.mask)
            self.assertFails(NoName, {"name": name}, is_enough, WORDS, name, self.ROWS, self.told.mask, self.told.lines)

    def test_fact_f(self):
        """Where lines are let by, every filling falls."""
        for number in range(40):
            design = wish_design(Rule(number + 9400))
            for name in wishes_of(design):
                for rows in list(falls_of(design, Rule(number), name, 3, 4))[:2]:
                    told = open_bits(design, name, rows)
                    walk = Walk(design)
                    for other in list(all_fillings(design, rows, told.mask))[:200]:
                        self.assertIn(0, [words[name] for words in walk.signals(other)])
                        self.assertEqual(filling(rows, told.mask, other), other)


if __name__ == "__main__":
    unittest.main()
