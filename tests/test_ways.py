"""The ways and sets of states that are looked at before the search is asked."""

import unittest

from everycycle.ways import MOST_WAYS, Ways, mask_of, state_number
from tests.fixed import Rule
from tests.nets import all_bits
from tests.test_clauses import is_true
from tests.test_frames import is_in
from tests.walks import counter


class Numbers(unittest.TestCase):
    def test_clauses_at_states(self):
        self.assertEqual([state_number(state) for state in ((), (1,), (0, 1), (1, 0, 1))], [0, 1, 2, 5])
        self.assertEqual([mask_of(clause) for clause in ((), (1,), (-1,), (2, -3), (-1, 2, -4))], [(0, 0), (1, 0), (1, 1), (6, 4), (11, 9)])
        for number in range(100):
            rule = Rule(number + 10500)
            clause = tuple(n * rule.one_of((1, -1)) for n in range(1, 6) if rule.pick(2))
            mask, turned = mask_of(clause)
            for state in all_bits(5):
                self.assertIs((state_number(state) ^ turned) & mask != 0, is_true(state, clause))


class Known(unittest.TestCase):
    def test_sets_and_ways(self):
        """A way is known exactly if one of those that were put, and have not been pushed out, will do."""
        machine = counter(4, 3, 9, 9)
        found = none = 0
        for number in range(60):
            rule = Rule(number + 10600)

            def some_clause(rule=rule):
                return tuple(n * rule.one_of((1, -1)) for n in range(1, 5) if rule.pick(2))

            def some_state(rule=rule):
                return tuple(rule.pick(2) for _ in range(4))

            ways, levels, put = Ways(machine), [{}, {}, {}, {}], []
            for _ in range(3):
                ways.levels.append({})
            for _ in range(40):
                i, clause = rule.pick(4), some_clause()
                if rule.pick(6) == 0 and i > 0:
                    ways.put_clause(i, clause)
                    levels[i][clause] = True
                clauses = None if i == 0 else [one for level in levels[i:] for one in level]
                state, behind = some_state(), some_state()
                if is_in(machine, clauses, state) and is_true(state, clause) and not is_true(behind, clause):
                    ways.put_way(i, clause, (state, ()), behind)
                    put.append((state, behind))
                for other in all_bits(4):
                    self.assertIs(ways.is_in(i, state_number(other)), is_in(machine, clauses, other))
                told = ways.known(i, clause)
                right = [one for one, later in put if is_in(machine, clauses, one) and is_true(one, clause) and not is_true(later, clause)]
                if told is None:
                    self.assertEqual(right, [])
                    none += 1
                else:
                    self.assertIn(told[0], right)
                    found += 1
        self.assertTrue(found > 100 and none > 100, (found, none))

    def test_the_last_ones_stay(self):
        ways = Ways(counter(8, 3, 9, 9))
        for number in range(MOST_WAYS + 5):
            state = tuple(number >> n & 1 for n in range(8))
            ways.put_way(0, (8,), (state, ()), (0,) * 8)
        self.assertEqual(len(ways.found), MOST_WAYS)
        self.assertEqual(ways.found[0][0], 5)


if __name__ == "__main__":
    unittest.main()
