"""[11], [13]: states, inputs, cycles and the words in them."""

import copy
import unittest

from everycycle.cycles import are_inputs, cycle, is_state, reset_of, word_at
from everycycle.errors import BadRow, NoName
from tests.anything import anything, placed
from tests.asking import Asking
from tests.circuits import EMPTY, NESTED, PLAIN, WRITES
from tests.fixed import Rule
from tests.meaning import small_design
from tests.plainly import inputs_of, plain_cycle, some_state

PAIR = ((0, 0), (5,), (5,))
TOP = (1, PAIR)
MEMORY = (0, 0, 0, 0)


def listed(value):
    """A value with lists in the places of its tuples."""
    return [listed(part) for part in value] if isinstance(value, tuple) else value


def leaves_of(value, path=()):
    """The places of all that is no tuple in a value, and of all tuples."""
    yield path
    if isinstance(value, tuple):
        for place, part in enumerate(value):
            yield from leaves_of(part, (*path, place))


def bent(value, path, other):
    """A value with another one at a path."""
    if not path:
        return other
    return placed(value, path[0], bent(value[path[0]], path[1:], other))


def part_at(value, path):
    """What stands in a value at a path."""
    return part_at(value[path[0]], path[1:]) if path else value


def is_row_of(value, *tests):
    """Whether a value is a row of parts of which each one passes its test; lists may stand for tuples."""
    return isinstance(value, (tuple, list)) and len(value) == len(tests) and all(
        test(part) for test, part in zip(tests, value))


def holds_a_list(value):
    """Whether a list stands in a row of rows, or is it."""
    return isinstance(value, list) or (isinstance(value, tuple) and any(holds_a_list(part) for part in value))


def is_word(value, most):
    return value.__class__ is int and 0 <= value <= most


def is_bit(value):
    return is_word(value, 1)


def is_cell_state(value):
    return is_row_of(value, lambda part: is_word(part, 7))


def is_pair_state(value):
    return is_row_of(value, lambda part: is_row_of(part, *[lambda word: is_word(word, 3)] * 2), is_cell_state, is_cell_state)


class States(Asking, unittest.TestCase):
    def test_reset_states(self):
        self.assertEqual(reset_of(NESTED, "cell"), (5,))
        self.assertEqual(reset_of(NESTED, "pair"), PAIR)
        self.assertEqual(reset_of(NESTED, "top"), TOP)
        self.assertEqual(reset_of(WRITES, "writes"), (MEMORY, 9, 3))
        self.assertEqual(reset_of(EMPTY, "empty"), ())
        self.assertEqual(reset_of(PLAIN, "plain"), ())
        self.assertFails(NoName, {"name": "x"}, reset_of, PLAIN, "x")

    def test_right_states(self):
        for design, module, state in (
            (NESTED, "cell", (0,)), (NESTED, "cell", (7,)), (NESTED, "pair", ((3, 3), (7,), (0,))), (NESTED, "top", TOP),
            (WRITES, "writes", ((15, 0, 1, 2), 15, 0)), (EMPTY, "empty", ()), (PLAIN, "plain", ()),
        ):
            self.assertIs(is_state(design, module, state), True)
            self.assertIs(is_state(design, module, listed(state)), False)
            self.assertIs(is_state(design, module, list(state)), False)

    def test_a_list_in_each_place_is_judged_and_may_be_passed(self):
        many = 0
        for design, module, state, inputs in (
            (NESTED, "top", TOP, (3, 1)), (NESTED, "pair", PAIR, (2,)), (WRITES, "writes", ((1, 2, 4, 8), 9, 3), (1, 12)),
        ):
            told = cycle(design, module, state, inputs)
            for path in leaves_of(state):
                part = part_at(state, path)
                if isinstance(part, tuple):
                    for inner in (list(part), listed(part)):
                        other = bent(state, path, inner)
                        self.assertIs(is_state(design, module, other), False)
                        self.assertEqual(cycle(design, module, other, inputs), told)
                        many += 1
            self.assertIs(are_inputs(design, module, list(inputs)), False)
            self.assertEqual(cycle(design, module, state, list(inputs)), told)
        self.assertEqual(many, 22)

    def test_each_place_of_a_state_bent(self):
        many = 0
        for path in leaves_of(TOP):
            for value in anything():
                state = bent(TOP, path, value)
                right = is_row_of(state, is_bit, is_pair_state)
                self.assertIs(is_state(NESTED, "top", state), right and not holds_a_list(state), path)
                if right:
                    self.assertEqual(len(cycle(NESTED, "top", state, (0, 0))), 2)
                else:
                    self.assertFails(BadRow, {"row": state}, cycle, NESTED, "top", state, (0, 0))
                many += right
        self.assertGreater(many, 9)

    def test_wrong_states(self):
        for state in (
            (), (5, 5), (8,), (-1,), (True,), (False,), ("5",), (None,), (5.0,), ((5,),), 5, None, "5", {0: 5}, {5}, {5: 0},
        ):
            self.assertIs(is_state(NESTED, "cell", state), False, state)
        for state in (
            ((0, 0, 0), (5,), (5,)), ((0,), (5,), (5,)), ((0, 4), (5,), (5,)), ((0, 0), (5,)), ((0, 0), (5,), (5,), 0),
            (0, (5,), (5,)), ((0, 0), 5, (5,)), ((0, 0), (5,), (8,)), ((0, 0), (5,), (5, 5)), ((0, 0), (5,), ()),
            ((0, True), (5,), (5,)),
        ):
            self.assertIs(is_state(NESTED, "pair", state), False, state)
            self.assertIs(is_state(NESTED, "top", (1, state)), False, state)
        self.assertIs(is_state(EMPTY, "empty", (0,)), False)
        self.assertIs(is_state(EMPTY, "empty", ((),)), False)

    def test_inputs(self):
        for inputs in ((0, 0), (3, 1), (2, 0)):
            self.assertIs(are_inputs(NESTED, "top", inputs), True)
            self.assertIs(are_inputs(NESTED, "top", list(inputs)), False)
        for inputs in ((4, 0), (0, 2), (-1, 0), (0,), (0, 0, 0), (), (True, 0), (0, False), ("0", 0), ((0,), 0), (0, None)):
            self.assertIs(are_inputs(NESTED, "top", inputs), False, inputs)
            self.assertIs(are_inputs(NESTED, "top", list(inputs)), False, inputs)
        self.assertIs(are_inputs(EMPTY, "empty", ()), True)
        self.assertIs(are_inputs(EMPTY, "empty", []), False)
        for value in anything():
            plain = isinstance(value, tuple) and all(part.__class__ is int for part in value)
            for design, module, tops in ((NESTED, "top", (3, 1)), (NESTED, "cell", (3,)), (WRITES, "writes", (3, 15)), (EMPTY, "empty", ())):
                right = plain and len(value) == len(tops) and all(0 <= word <= most for word, most in zip(value, tops))
                self.assertIs(are_inputs(design, module, value), right)


class Cycles(Asking, unittest.TestCase):
    def test_a_cycle_by_hand(self):
        signals, state = cycle(NESTED, "top", TOP, (3, 1))
        self.assertEqual(signals, (
            ("p.add", 3), ("p.one.step", 3), ("p.one.sum", 0), ("p.one.low", 1), ("p.seen", 0), ("p.two.step", 0),
            ("p.two.sum", 5), ("p.two.low", 1), ("p.both", 3), ("w", 1),
        ))
        self.assertEqual(state, (0, ((0, 3), (0,), (5,))))
        signals, state = cycle(NESTED, "top", (0, ((2, 3), (4,), (6,))), (3, 1))
        self.assertEqual(signals, (
            ("p.add", 0), ("p.one.step", 0), ("p.one.sum", 4), ("p.one.low", 0), ("p.seen", 2), ("p.two.step", 2),
            ("p.two.sum", 0), ("p.two.low", 0), ("p.both", 0), ("w", 0),
        ))
        self.assertEqual(state, (1, ((2, 3), (4,), (0,))))
        self.assertEqual(cycle(NESTED, "cell", (6,), (1,)), ((("sum", 7), ("low", 0)), (7,)))

    def test_writes_and_what_is_read_with_them(self):
        # The first write is at place 0, the others do not come.
        signals, state = cycle(WRITES, "writes", ((1, 2, 4, 8), 9, 3), (0, 12))
        self.assertEqual(signals, (("now", 1), ("was", 3), ("out", 11)))
        self.assertEqual(state, ((12, 2, 4, 8), 9, 12))
        # Place 1 twice: the later write counts; what is read is what stood.
        signals, state = cycle(WRITES, "writes", ((1, 2, 4, 8), 9, 3), (1, 12))
        self.assertEqual(signals, (("now", 2), ("was", 3), ("out", 11)))
        self.assertEqual(state, ((1, 9, 4, 8), 9, 12))
        # All three, at places 3, 1 and 0.
        signals, state = cycle(WRITES, "writes", ((1, 2, 4, 8), 9, 3), (3, 12))
        self.assertEqual(signals, (("now", 8), ("was", 3), ("out", 11)))
        self.assertEqual(state, ((9, 9, 4, 12), 9, 12))
        # The first and the third one, at places 2 and 3.
        signals, state = cycle(WRITES, "writes", ((1, 2, 4, 8), 9, 0), (2, 0))
        self.assertEqual(state, ((1, 2, 0, 5), 9, 0))
        self.assertEqual(signals, (("now", 4), ("was", 0), ("out", 8)))

    def test_no_items(self):
        self.assertEqual(cycle(EMPTY, "empty", (), ()), ((), ()))
        self.assertEqual(cycle(PLAIN, "plain", [], []), ((("w", 1),), ()))

    def test_lists_in_and_tuples_out(self):
        state, inputs = listed((0, ((2, 3), (4,), (6,)))), [3, 1]
        before = copy.deepcopy((state, inputs))
        self.assertEqual(cycle(NESTED, "top", state, inputs), cycle(NESTED, "top", (0, ((2, 3), (4,), (6,))), (3, 1)))
        self.assertEqual((state, inputs), before)

    def test_the_state_goes_ahead_of_the_inputs(self):
        for state, inputs in (([5, 5], [9]), (None, None), ((8,), {})):
            self.assertFails(BadRow, {"row": state}, cycle, NESTED, "cell", state, inputs)
        for inputs in ((4,), [4], (), (1, 1), None, "1", (True,), {1: 1}):
            self.assertFails(BadRow, {"row": inputs}, cycle, NESTED, "cell", (5,), inputs)

    def test_against_the_plain_meaning(self):
        for number in range(250):
            design = small_design(number)
            rule = Rule(number + 3000)
            for _, module, _ in design:
                state, inputs = some_state(design, module, rule), inputs_of(design, module, rule)
                signals, behind = cycle(design, module, state, inputs)
                self.assertEqual((signals, behind), plain_cycle(design, module, state, inputs), number)
                self.assertIs(is_state(design, module, behind), True)
                self.assertEqual(cycle(design, module, listed(state), list(inputs)), (signals, behind))

    def test_word_at(self):
        signals, _ = cycle(NESTED, "top", TOP, (3, 1))
        for name, word in signals:
            self.assertEqual(word_at(signals, name), word)
        self.assertEqual(word_at([["a", 3], ["b", 4]], "b"), 4)
        for name in ("x", "p", "both", "r", "on", "", "p.one", "p.one.count"):
            self.assertFails(NoName, {"name": name}, word_at, signals, name)
        self.assertFails(NoName, {"name": "w"}, word_at, (), "w")
        for name in anything():
            self.assertFails(NoName, {"name": name}, word_at, signals, name)

    def test_modules_that_are_not_there(self):
        for call, more in ((reset_of, ()), (is_state, ((),)), (are_inputs, ((),)), (cycle, ((), ()))):
            self.assertFails(NoName, {"name": "low"}, call, NESTED, "low", *more)


if __name__ == "__main__":
    unittest.main()
