"""The errors: their fields, and from which each derives."""

import unittest

from everycycle import errors

FIELDS = {
    "BadLine": ("line", "column"),
    "BadNumber": ("what", "number"),
    "BadRow": ("row",),
    "BadName": ("name",),
    "BadWidth": ("name", "wanted", "told"),
    "NoName": ("name",),
    "TakenName": ("name",),
    "Unlike": ("what",),
    "Missing": ("name",),
    "NotKept": ("name", "rows"),
    "NothingToUndo": (),
    "NothingToRedo": (),
}


class Errors(unittest.TestCase):
    def test_fields_are_kept_just_as_they_are(self):
        for name, fields in FIELDS.items():
            values = [[1, [2]], {"a": [None]}, object()][:len(fields)]
            for turn in range(max(1, len(fields))):
                handed = values[turn:] + values[:turn]
                error = getattr(errors, name)(*handed)
                for field, value in zip(fields, handed):
                    self.assertIs(getattr(error, field), value, name)
                self.assertEqual(sorted(vars(error)), sorted(fields), name)

    def test_fields_are_in_the_order_shown(self):
        for name, fields in FIELDS.items():
            handed = list(range(len(fields)))
            error = getattr(errors, name)(*handed)
            self.assertEqual([getattr(error, field) for field in fields], handed, name)

    def test_a_list_is_kept_and_not_copied(self):
        rows = [[0], [1]]
        error = errors.NotKept("w", rows)
        rows.append([0])
        self.assertIs(error.rows, rows)
        self.assertIsInstance(error.rows, list)
        row = []
        self.assertIs(errors.BadRow(row).row, row)

    def test_any_value_may_stand_in_a_field(self):
        for value in (None, True, -1, "", (), [], {}, b"", ValueError, errors.CycleError()):
            for name, fields in FIELDS.items():
                error = getattr(errors, name)(*[value for _ in fields])
                for field in fields:
                    self.assertIs(getattr(error, field), value)

    def test_all_derive_right_from_the_one(self):
        self.assertEqual(errors.CycleError.__bases__, (ValueError,))
        for name in FIELDS:
            self.assertEqual(getattr(errors, name).__bases__, (errors.CycleError,), name)

    def test_none_derives_from_another(self):
        for one in FIELDS:
            for other in FIELDS:
                found = issubclass(getattr(errors, one), getattr(errors, other))
                self.assertEqual(found, one == other)

    def test_they_are_raised_and_caught(self):
        for name, fields in FIELDS.items():
            error = getattr(errors, name)(*fields)
            for kind in (getattr(errors, name), errors.CycleError, ValueError):
                with self.assertRaises(kind) as caught:
                    raise error
                self.assertIs(caught.exception, error)
            for other in FIELDS:
                if other != name:
                    self.assertNotIsInstance(error, getattr(errors, other))

    def test_each_is_equal_to_itself_alone(self):
        for name, fields in FIELDS.items():
            one = getattr(errors, name)(*fields)
            other = getattr(errors, name)(*fields)
            self.assertTrue(one == one)
            self.assertFalse(one != one)
            self.assertFalse(one == other)
            self.assertTrue(one != other)
            self.assertEqual(len({one, other}), 2)

    def test_they_are_defined_in_their_file(self):
        for name in [*FIELDS, "CycleError"]:
            self.assertEqual(getattr(errors, name).__module__, "everycycle.errors")


if __name__ == "__main__":
    unittest.main()
