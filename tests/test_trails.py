"""[41], [42]: trails, and the acts of the search."""

import unittest

from everycycle.lines import line_clauses
from everycycle.solver import gone_back, is_trail, learnt, trail_rank, units
from tests.anything import anything, placed
from tests.asking import Asking
from tests.fixed import Rule
from tests.nets import all_bits
from tests.riddles import parities, pigeons
from tests.test_clauses import is_true
from tests.test_lines import bent, paths, some_clauses

ROW = ((1,), (-1, 2), (-2, -3, 4), (3, 5), (-4, -5, 6), (-3, -6))
TRAIL = (((1, 0), (2, 1)), ((3, None), (4, 2), (-6, 5), (-5, 4)))


def plain_trail(many, row, trail):
    """Whether a value is a trail, once more, apart from the program."""
    if trail.__class__ is not tuple or not trail:
        return False
    ahead = []
    for at, level in enumerate(trail):
        if level.__class__ is not tuple or at and not level:
            return False
        for place, entry in enumerate(level):
            if entry.__class__ is not tuple or len(entry) != 2 or entry[0].__class__ is not int:
                return False
            literal, reason = entry
            if not 1 <= abs(literal) <= many or abs(literal) in [abs(other) for other in ahead]:
                return False
            if at and not place:
                if reason is not None:
                    return False
            else:
                if reason.__class__ is not int or not 0 <= reason < len(row) or literal not in row[reason]:
                    return False
                if any(-other not in ahead for other in row[reason] if other != literal):
                    return False
            ahead.append(literal)
    return True


def rank(many, trail):
    return sum(len(level) * (many + 1) ** (many - i) for i, level in enumerate(trail))


class Trails(unittest.TestCase):
    def test_right_ones(self):
        for trail in (TRAIL, TRAIL[:1], ((),), ((), ((1, None),)), ((), ((1, None),), ((2, None),)), (((1, 0),), ((-2, None),)),
                      ((), ((-3, None), (5, 3)), ((6, None),)), ((), ((6, None), (-3, 5), (5, 3), (1, 0)))):
            self.assertIs(is_trail(6, ROW, trail), True, trail)
            self.assertIs(is_trail(6, [list(clause) for clause in ROW], trail), True, trail)
            self.assertEqual(trail_rank(6, trail), rank(6, trail))
        self.assertIs(is_trail(0, (), ((),)), True)
        self.assertIs(is_trail(5, ROW, TRAIL), False)
        self.assertIs(is_trail(4, ROW, TRAIL[:1]), True)

    def test_wrong_ones(self):
        for trail in ((), ((), ()), (((1, None),),), (((2, 1),),), (((2, 1), (1, 0)),), (((1, 0), (1, 0)),), (((1, 0), (-1, 0)),),
                      (((1, 1),),), (((1, 6),),), (((1, -1),),), (((1, True),),), (((True, 0),),), ((), ((1, 0),)),
                      ((), ((1, None), (2, None))), ((), ((3, None), (-6, 5), (6, 4))), ((), ((7, None),)), ((), ((0, None),)),
                      ((), ((-7, None),)), ((), ((1, None),), ((1, None),)), ((), ((1, None),), ((-1, None),)),
                      ((), ((1, None),), ()), [()], ([],), (([1, 0],),), (((1, 0, 0),),), (((1,),),), None, 1, "", ((1, 0),)):
            self.assertIs(is_trail(6, ROW, trail), False, trail)
            self.assertIs(plain_trail(6, ROW, trail), False, trail)

    def test_each_thing_bent(self):
        values = [*anything(), *range(-7, 8)]
        right = 0
        for path in paths(TRAIL):
            for value in values:
                trail = bent(TRAIL, path, value)
                wanted = plain_trail(6, ROW, trail)
                self.assertIs(is_trail(6, ROW, trail), wanted, path)
                right += wanted
            part = TRAIL
            for place in path:
                part = part[place]
            if isinstance(part, tuple):
                for k in range(len(part)):
                    for other in (part[:k] + part[k + 1:], (*part[:k], part[k], *part[k:]), (*part[:k], *part[k:][::-1]), list(part)):
                        trail = bent(TRAIL, path, other)
                        self.assertIs(is_trail(6, ROW, trail), plain_trail(6, ROW, trail), path)
        self.assertGreater(right, 12)

    def test_ranks(self):
        self.assertEqual(trail_rank(2, ((),)), 0)
        self.assertEqual(trail_rank(2, (((1, 0),),)), 9)
        self.assertEqual(trail_rank(2, (((1, 0),), ((2, None),))), 12)
        self.assertEqual(trail_rank(2, ((), ((1, None),), ((2, None),))), 4)
        self.assertEqual(trail_rank(0, ((),)), 0)
        self.assertEqual(trail_rank(12, tuple([()] + [((n, None),) for n in range(1, 13)])), sum(13 ** k for k in range(12)))


class Acts(unittest.TestCase):
    def test_units_by_hand(self):
        trail, n = units(6, ROW, ((),))
        self.assertEqual((trail, n), ((((1, 0), (2, 1)),), None))
        trail, n = units(6, ROW, (((1, 0), (2, 1)), ((3, None),)))
        self.assertEqual((trail[0], trail[1][0], n), (((1, 0), (2, 1)), (3, None), None))
        self.assertEqual(sorted(literal for literal, _ in trail[1]), [-6, -5, 3, 4])
        row = (*ROW, (5, 6, -3))
        trail, n = units(6, row, (((1, 0), (2, 1)), ((3, None),)))
        self.assertIs(is_trail(6, row, trail), True)
        self.assertTrue(all(-literal in [one for level in trail for one, _ in level] for literal in row[n]))

    def test_nothing_is_put_where_a_clause_is_false_already(self):
        for row, trail in ((((), (1,)), ((),)), (((1,), (-1,), (2,)), (((1, 0),),)), (((1,), (2, 3), (3,)), ((), ((-1, None),)))):
            many = 3
            told, n = units(many, row, trail)
            self.assertEqual(told, trail)
            self.assertTrue(all(-literal in [one for level in trail for one, _ in level] for literal in row[n]))

    def test_learnt_by_hand(self):
        row = ((-1, 2), (-1, 3), (-2, -3, 4), (-4, -5, 6), (-4, -6), (5, 7))
        trail = ((), ((-7, None), (5, 5)), ((1, None), (2, 0), (3, 1), (4, 2), (6, 3)))
        line, clause, level = learnt(7, row, trail, 4)
        self.assertEqual(line_clauses(row, (*[("given", n) for n in range(6)], line))[-1], clause)
        self.assertEqual((line, clause, level), (("chain", 4, ((6, 3),)), (-4, -5), 1))
        self.assertEqual(gone_back(trail, level, -4, 6), ((), ((-7, None), (5, 5), (-4, 6))))
        # Clause 1 itself will do, and there are no others.
        self.assertEqual(learnt(2, ((-1,), (1, 2)), ((), ((1, None),)), 0), (("given", 0), (-1,), 0))
        self.assertEqual(gone_back(((), ((1, None),)), 0, -1, 0), (((-1, 0),),))
        self.assertEqual(gone_back(((), ((1, None),), ((2, None),)), 1, -2, 3), ((), ((1, None), (-2, 3))))

    def test_searches(self):
        """Fact B."""
        found, barred = 0, 0
        for number in range(150):
            rule = Rule(number + 3100)
            many = 1 + rule.pick(12)
            row = some_clauses(rule, many, rule.pick(41))
            if number % 10 == 0:
                many, row = rule.one_of((pigeons(3, 2), pigeons(4, 3), parities(9, 3), parities(8, 2)))
            told = self.search(rule, many, row)
            wanted = any(all(is_true(bits, clause) for clause in row) for bits in all_bits(many))
            self.assertIs(told, wanted)
            found, barred = found + told, barred + (not told)
        self.assertTrue(found > 30 and barred > 30, (found, barred))

    def search(self, rule, many, row):
        """Whether an assignment is found by the acts alone; each step of the way must be right."""
        clauses, trail, now = list(row), ((),), 0
        while True:
            told, n = units(many, tuple(clauses), trail)
            self.assertTrue(plain_trail(many, clauses, told) and is_trail(many, tuple(clauses), told))
            self.assertEqual(told[:-1], trail[:-1])
            self.assertEqual(told[-1][:len(trail[-1])], trail[-1])
            self.assertTrue(trail_rank(many, told) > now or told == trail)
            self.hold_units(clauses, told, n)
            self.assertEqual(units(many, tuple(clauses), told)[0], told)
            trail, now = told, trail_rank(many, told)
            self.assertEqual(now, rank(many, trail))
            self.assertLess(now, (many + 1) ** (many + 1))
            true = [literal for level in trail for literal, _ in level]
            if n is None:
                left = [v for v in range(1, many + 1) if v not in true and -v not in true]
                if not left:
                    return True
                trail = (*trail, ((rule.one_of(left) * rule.one_of((1, -1)), None),))
            elif len(trail) == 1:
                return False
            else:
                trail = self.learn(many, clauses, trail, n)
            self.assertTrue(plain_trail(many, clauses, trail))
            self.assertGreater(trail_rank(many, trail), now)
            now = trail_rank(many, trail)

    def hold_units(self, clauses, trail, n):
        true = [literal for level in trail for literal, _ in level]
        false = [clause for clause in clauses if all(-literal in true for literal in clause)]
        if n is not None:
            self.assertIs(n.__class__, int)
            self.assertTrue(all(-literal in true for literal in clauses[n]))
        else:
            self.assertEqual(false, [])
            for clause in clauses:
                self.assertTrue(any(literal in true for literal in clause) or len([x for x in clause if -x not in true]) > 1)

    def learn(self, many, clauses, trail, n):
        line, clause, level = learnt(many, tuple(clauses), trail, n)
        numbered = tuple(("given", k) for k in range(len(clauses)))
        self.assertEqual(line_clauses(tuple(clauses), (*numbered, line))[-1], clause)
        levels = {literal: at for at, entries in enumerate(trail) for literal, _ in entries}
        places = [levels[-literal] for literal in clause]
        last = len(trail) - 1
        self.assertEqual(places.count(last), 1)
        self.assertEqual(level, max([place for place in places if place != last], default=0))
        literal = clause[places.index(last)]
        clauses.append(clause)
        told = gone_back(trail, level, literal, len(clauses) - 1)
        self.assertEqual(told, (*trail[:level], (*trail[level], (literal, len(clauses) - 1))))
        return told


if __name__ == "__main__":
    unittest.main()
