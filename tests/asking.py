"""How the tests ask for errors."""


class Asking:
    """What a test case of errors has beside its own."""

    def assertFails(self, kind, fields, call, *args, note=None):
        """The call must raise an error of just this class, with just these attributes."""
        try:
            told = call(*args)
        except kind as error:
            self.assertIs(error.__class__, kind)
            self.assertEqual(vars(error), fields, note)
            for name, value in fields.items():
                self.assertIs(vars(error)[name].__class__, value.__class__)
                if name == "row":
                    self.assertIs(vars(error)[name], value)
            return
        self.fail(f"no {kind.__name__} of {fields}, but {told!r}: {note if note is not None else args!r}")
