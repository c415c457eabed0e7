"""[14]: runs of the top."""

import copy
import unittest

from everycycle.cycles import cycle, reset_of, run, run_from, state_behind
from everycycle.errors import BadRow
from tests.anything import anything
from tests.asking import Asking
from tests.circuits import EMPTY, NESTED, PLAIN, WRITES
from tests.fixed import Rule
from tests.meaning import small_design
from tests.plainly import inputs_of, plain_cycle, some_state
from tests.test_cycles import TOP, is_row_of, is_word, listed


def some_rows(design, rule, many):
    """So many rows of inputs of the top."""
    return tuple(inputs_of(design, design[-1][1], rule) for _ in range(many))


class Runs(Asking, unittest.TestCase):
    def test_by_hand(self):
        rows = ((1, 5), (3, 6), (2, 7))
        reset = ((0, 0, 0, 0), 9, 3)
        told = run(WRITES, rows)
        self.assertEqual(told, (
            (reset, (("now", 0), ("was", 3), ("out", 3))),
            (((0, 9, 0, 0), 9, 5), (("now", 0), ("was", 5), ("out", 5))),
            (((1, 9, 0, 6), 9, 6), (("now", 0), ("was", 6), ("out", 0))),
        ))
        self.assertEqual(state_behind(WRITES, reset, rows), ((1, 9, 7, 1), 9, 7))
        self.assertEqual(run_from(WRITES, reset, rows), told)

    def test_no_rows(self):
        for rows in ((), []):
            for design in (NESTED, WRITES, EMPTY, PLAIN):
                reset = reset_of(design, design[-1][1])
                self.assertEqual(run(design, rows), ())
                self.assertEqual(run_from(design, reset, rows), ())
                self.assertEqual(state_behind(design, reset, rows), reset)
                self.assertEqual(state_behind(design, listed(reset), rows), reset)

    def test_no_inputs(self):
        self.assertEqual(run(PLAIN, ((), [], ())), (((), (("w", 1),)),) * 3)
        self.assertEqual(state_behind(EMPTY, (), ((),)), ())

    def test_lists_in_and_tuples_out(self):
        state, rows = listed(TOP), [[3, 1], [1, 1], [0, 0]]
        before = copy.deepcopy((state, rows))
        self.assertEqual(run_from(NESTED, state, rows), run_from(NESTED, TOP, ((3, 1), (1, 1), (0, 0))))
        self.assertEqual(run(NESTED, rows), run(NESTED, ((3, 1), (1, 1), (0, 0))))
        self.assertEqual(state_behind(NESTED, state, rows), state_behind(NESTED, TOP, ((3, 1), (1, 1), (0, 0))))
        self.assertEqual((state, rows), before)

    def test_cycle_behind_cycle(self):
        for number in range(80):
            design = small_design(number)
            top = design[-1][1]
            rule = Rule(number + 4000)
            rows = some_rows(design, rule, rule.pick(9))
            start = some_state(design, top, rule)
            self.assertEqual(run(design, rows), run_from(design, reset_of(design, top), rows))
            told = run_from(design, start, rows)
            self.assertEqual(len(told), len(rows))
            state = start
            for row, pair in zip(rows, told):
                signals, behind = plain_cycle(design, top, state, row)
                self.assertEqual(pair, (state, signals))
                self.assertEqual(cycle(design, top, state, row), (signals, behind))
                state = behind
            self.assertEqual(state_behind(design, start, rows), state)

    def test_runs_put_together_at_each_place(self):
        for number in range(60):
            design = small_design(number)
            rule = Rule(number + 5000)
            state = some_state(design, design[-1][1], rule)
            rows = some_rows(design, rule, 6)
            whole, end = run_from(design, state, rows), state_behind(design, state, rows)
            for place in range(7):
                one, two = rows[:place], rows[place:]
                middle = state_behind(design, state, one)
                self.assertEqual(run_from(design, state, one) + run_from(design, middle, two), whole)
                self.assertEqual(state_behind(design, middle, two), end)


class Errors(Asking, unittest.TestCase):
    def test_wrong_rows(self):
        for rows in (None, 0, "ab", {}, ((4, 0),), ((0, 0), (0, 2)), ((0, 0), 0), (0, 0), [[0, 0], [0]], ((0, True),), ((0, 0), None)):
            self.assertFails(BadRow, {"row": rows}, run, NESTED, rows)
            self.assertFails(BadRow, {"row": rows}, run_from, NESTED, TOP, rows)
            self.assertFails(BadRow, {"row": rows}, state_behind, NESTED, TOP, rows)

    def test_anything_for_rows(self):
        def is_right(value):
            return isinstance(value, (tuple, list)) and all(
                is_row_of(row, lambda word: is_word(word, 3), lambda word: is_word(word, 15)) for row in value)

        for value in anything():
            for rows in (value, (value,), [(0, 0), value], ((value, 0),), ((0, value), (0, 0))):
                if is_right(rows):
                    self.assertEqual(len(run(WRITES, rows)), len(rows))
                else:
                    self.assertFails(BadRow, {"row": rows}, run, WRITES, rows)
                    self.assertFails(BadRow, {"row": rows}, state_behind, WRITES, ((0,) * 4, 0, 0), rows)
                    self.assertFails(BadRow, {"row": rows}, run_from, WRITES, ((0,) * 4, 0, 0), rows)

    def test_the_state_goes_ahead_of_the_rows(self):
        for call in (run_from, state_behind):
            for state in ((2, TOP[1]), [1, [1]], None, (), 7, (True, TOP[1])):
                self.assertFails(BadRow, {"row": state}, call, NESTED, state, ())
                self.assertFails(BadRow, {"row": state}, call, NESTED, state, None)
                self.assertFails(BadRow, {"row": state}, call, NESTED, state, ((9, 9),))


if __name__ == "__main__":
    unittest.main()
