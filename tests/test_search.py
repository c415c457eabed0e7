"""The search that the solver rests on, with such limits that it often rests, forgets and makes its weights less."""

import unittest
from unittest import mock

from everycycle import search
from everycycle.asked import AskedSearch
from everycycle.lines import is_refutation
from everycycle.search import Search, round_length
from tests.fixed import Rule
from tests.nets import all_bits
from tests.riddles import parities, pigeons
from tests.test_clauses import is_true
from tests.test_lines import plain_clauses, some_clauses
from tests.test_solver import some_assumed


def narrow_limits(few=1, room=2, weight=1 << 12):
    return mock.patch.multiple(search, FEW_CLASHES=few, FIRST_ROOM=room, MORE_ROOM=1, GREATEST_WEIGHT=weight)


def long_clause(rule, many, length):
    """A clause of so many literals."""
    variables = []
    while len(variables) < length:
        variable = 1 + rule.pick(many)
        if variable not in variables:
            variables.append(variable)
    return tuple(n * rule.one_of((1, -1)) for n in sorted(variables))


class Rounds(unittest.TestCase):
    def test_lengths(self):
        self.assertEqual([round_length(k) for k in range(1, 16)], [1, 1, 2, 1, 1, 2, 4, 1, 1, 2, 1, 1, 2, 4, 8])
        self.assertEqual([round_length(2 ** k - 1) for k in range(1, 10)], [2 ** k for k in range(9)])


class Asked(unittest.TestCase):
    def hold(self, place, many, clauses, assumed, wanted):
        """One more question to a search must be answered rightly; tells whether an assignment was found."""
        assignment, lines = place.ask(assumed)
        if wanted is not None:
            self.assertIs(lines is None, wanted)
        if lines is None:
            self.assertEqual(len(assignment), many)
            self.assertTrue(all(is_true(assignment, clause) for clause in (*clauses, *[(n,) for n in assumed])))
        else:
            self.assertIsNone(assignment)
            self.assertIs(is_refutation(clauses, lines, assumed), True)
        return lines is None

    def ask_again(self, rule, many, clauses, times):
        right = [bits for bits in all_bits(many) if all(is_true(bits, clause) for clause in clauses)]
        place = Search(many, clauses)
        for _ in range(times):
            assumed = some_assumed(rule, many)
            self.hold(place, many, clauses, assumed, any(all((bits[abs(n) - 1] == 1) == (n > 0) for n in assumed) for bits in right))
        # What has been learnt follows from the clauses.
        told = plain_clauses(clauses, tuple(place.lines))
        self.assertIsNotNone(told)
        self.assertEqual([set(clause) for clause in told], [set(clause) for clause in place.clauses])
        self.assertTrue(all(is_true(bits, clause) for bits in right for clause in told))
        return place

    def test_again_and_again(self):
        for number in range(200):
            rule = Rule(number + 3800)
            many = 1 + rule.pick(8)
            self.ask_again(rule, many, some_clauses(rule, many, rule.pick(5 * many + 1)), 6)

    def test_again_and_again_with_rests(self):
        forgotten = []
        with narrow_limits(1, 0):
            for number in range(120):
                rule = Rule(number + 4100)
                many = 9 + rule.pick(2)
                clauses = tuple(long_clause(rule, many, 3) for _ in range(4 * many))
                place = self.ask_again(rule, many, clauses, 6)
                forgotten.append(place.room)
        self.assertGreater(sum(forgotten), 100)

    def test_units_among_long_clauses(self):
        with narrow_limits(2):
            for number in range(150):
                rule = Rule(number + 4300)
                many = 10
                clauses = [long_clause(rule, many, 4) for _ in range(75)]
                clauses += [(n * rule.one_of((1, -1)),) for n in range(1, many + 1) if rule.pick(6) == 0]
                self.ask_again(rule, many, tuple(clauses), 4)

    def test_riddles_with_rests(self):
        for few in (1, 3, 16):
            for room in (1, 20):
                with narrow_limits(few, room):
                    for many in (3, 4, 5):
                        variables, clauses = pigeons(many + 1, many)
                        place = Search(variables, clauses)
                        self.hold(place, variables, clauses, (1,), False)
                        self.hold(place, variables, clauses, (), False)
                        self.hold(place, variables, clauses, (-1,), False)
                        self.assertIsNotNone(place.false_clause)
                        clauses = clauses[1:]
                        place = Search(variables, clauses)
                        self.hold(place, variables, clauses, (1,), False)
                        self.hold(place, variables, clauses, (-1,), True)
                        self.hold(place, variables, clauses, (2,), False)
                        self.hold(place, variables, clauses, (), True)
                    variables, clauses = parities(11, 4)
                    self.hold(Search(variables, clauses), variables, clauses, (), False)


class AskedMore(unittest.TestCase):
    """Searches whose variables and clauses become more between the questions."""

    def right_bits(self, many, clauses):
        return [bits for bits in all_bits(many) if all(is_true(bits, clause) for clause in clauses)]

    def hold(self, place, many, clauses, assumed):
        """A question must be answered rightly, with lines or a clause of assumed literals that show it."""
        right = self.right_bits(many, clauses)
        wanted = any(all((bits[abs(n) - 1] == 1) == (n > 0) for n in assumed) for bits in right)
        self.assertIs(place.answer(assumed), wanted)
        if wanted:
            bits = [1 if truth == 1 else 0 for truth in place.truths[1:many + 1]]
            self.assertTrue(all(is_true(bits, clause) for clause in (*clauses, *[(n,) for n in assumed])))
            return
        self.assertIs(is_refutation(clauses, place.end_lines(), assumed), True)
        steps, left = place.end_steps()
        self.assertTrue(all(n in assumed for n in left))
        self.assertFalse(any(all((bits[abs(n) - 1] == 1) == (n > 0) for n in left) for bits in right))
        number = place.put_end()
        self.assertTrue(all(-n in left for n in place.clauses[number]))
        self.assertTrue(all(is_true(bits, place.clauses[number]) for bits in right))

    def grow(self, rule):
        many, clauses = rule.pick(4), []
        place = AskedSearch(many, ())
        self.assertEqual(place.put_variables(0), [])
        for _ in range(14):
            kind = rule.pick(3)
            if (kind == 0 or many == 0) and many < 8:
                more = 1 + rule.pick(2)
                self.assertEqual(place.put_variables(more), list(range(many + 1, many + more + 1)))
                many += more
            elif kind == 1:
                for clause in some_clauses(rule, many, 1 + rule.pick(3)):
                    number = place.put_more(("given", len(clauses)), list(clause))
                    clauses.append(clause)
                    self.assertEqual(set(place.clauses[number]), set(clause))
                    self.assertEqual(place.lines[number], ("given", len(clauses) - 1))
            else:
                self.hold(place, many, clauses, some_assumed(rule, many))
        self.hold(place, many, clauses, ())
        told = plain_clauses(clauses, tuple(place.lines))
        self.assertEqual([set(clause) for clause in told], [set(clause) for clause in place.clauses])
        return place.false_clause is None

    def test_more_and_more(self):
        open_ones = sum(self.grow(Rule(number + 7200)) for number in range(400))
        self.assertTrue(80 < open_ones < 320, open_ones)

    def test_more_and_more_with_rests(self):
        with narrow_limits(1, 0):
            for number in range(150):
                self.grow(Rule(number + 7700))

    def test_clauses_left_out(self):
        """What is left out counts no longer, unless it is what is learnt from it; nothing else is lost."""
        for number in range(250):
            rule = Rule(number + 7900)
            many = 3 + rule.pick(4)
            staying = some_clauses(rule, many, 1 + rule.pick(2 * many))
            place = AskedSearch(many, ())
            for n, clause in enumerate(staying):
                place.put_more(("given", n), clause)
            rows = list(staying)
            for _ in range(4):
                # A clause that counts only where a further variable is true, which is then closed.
                switch = place.put_variables(1)[0]
                clause = (*some_clauses(rule, many, 1)[0][:rule.pick(4)], -switch)
                at = place.put_more(("given", 0), clause)
                rows = [*rows, clause]
                assumed = some_assumed(rule, many)
                right = self.right_bits(switch, rows)
                for more in ((switch,), (-switch,)):
                    wanted = any(all((bits[abs(n) - 1] == 1) == (n > 0) for n in (*assumed, *more)) for bits in right)
                    self.assertIs(place.answer((*assumed, *more)), wanted)
                    if not wanted:
                        left = place.end_literals()
                        self.assertEqual(sorted(left), sorted(place.end_steps()[1]))
                        self.assertFalse(any(all((bits[abs(n) - 1] == 1) == (n > 0) for n in left) for bits in right))
                place.leave_out(at)
                place.put_more(("given", 0), (-switch,))
                rows.append((-switch,))
                self.assertFalse(any(at in row for row in place.watching))
                self.assertFalse(any(at == other for row in place.pairs for _, other in row))

    def test_by_hand(self):
        place = AskedSearch(0, ())
        self.assertIs(place.answer(()), True)
        one, two, three = place.put_variables(3)
        place.put_more(("given", 0), [one])
        place.put_more(("given", 1), [-one, two])
        self.assertIs(place.answer((-two,)), False)
        self.assertEqual(place.end_steps(), ([(1, 0)], [-2]))
        number = place.put_end()
        self.assertEqual((place.clauses[number], place.lines[number]), ([2], ("chain", 1, ((1, 0),))))
        # Clauses whose other literals are false already: by one a literal is true, and then one is false.
        place.put_more(("given", 2), [-one, -two, three])
        self.assertIs(place.answer(()), True)
        self.assertEqual(place.truths[three], 1)
        self.assertIs(place.answer((-three,)), False)
        place.put_more(("given", 3), [-three, -one])
        self.assertIs(place.answer(()), False)
        self.assertEqual(place.end_steps()[1], [])
        self.assertEqual(place.put_variables(1), [4])
        place.put_more(("given", 4), [])
        self.assertIs(place.answer(()), False)


class Weights(unittest.TestCase):
    def test_great_weights_are_made_less(self):
        variables, clauses = pigeons(7, 6)
        with narrow_limits(50, 50):
            place = Search(variables, clauses)
            _, lines = place.ask(())
        self.assertIs(is_refutation(clauses, lines), True)
        self.assertLess(place.weight, 1 << 13)
        self.assertLess(max(place.weights), 1 << 20)

    def test_the_heaviest_goes_first(self):
        place = Search(4, ())
        for variable, weight in ((3, 1), (2, 1), (3, 1)):
            place.weight = weight
            place.decide(variable)
            place.mark(variable)
            place.go_back(0)
        self.assertEqual([place.heaviest() for _ in range(5)], [3, 2, 1, 4, None])


if __name__ == "__main__":
    unittest.main()
