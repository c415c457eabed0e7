"""What the tests ask of objects that keep what they are given."""

from tests.anything import anything


class Keeping:
    """What a test case of such objects has beside its own."""

    def assertKeeps(self, kind, *names):
        """Each attribute must be the very value that is given, of a list a tuple of its very items."""
        inner = [0, [1]]
        for value in (*anything(), inner, [inner, (inner,)]):
            for place in range(len(names)):
                given = [None] * len(names)
                given[place] = value
                told = kind(*given)
                self.assertEqual(list(vars(told)), list(names))
                self.hold_kept(getattr(told, names[place]), value)
        rows = [[0], [1]]
        told = kind(*[rows for _ in names])
        rows.append([2])
        rows[0].append(3)
        for name in names:
            self.assertEqual(getattr(told, name), ([0, 3], [1]))
        self.assertTrue(told == told)
        self.assertFalse(told != told)
        for other in (kind(*[(1,) for _ in names]), tuple(vars(told).values()), None):
            self.assertFalse(kind(*[(1,) for _ in names]) == other)
            self.assertTrue(kind(*[(1,) for _ in names]) != other)

    def hold_kept(self, found, value):
        if value.__class__ is not list:
            self.assertIs(found, value)
            return
        self.assertIs(found.__class__, tuple)
        self.assertEqual(len(found), len(value))
        for one, other in zip(found, value):
            self.assertIs(one, other)


