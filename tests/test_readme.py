"""What README.md shows can be done so."""

import contextlib
import io
import unittest
from pathlib import Path

README = Path(__file__).resolve().parent.parent / "README.md"


class Readme(unittest.TestCase):
    def test_the_example(self):
        code = README.read_text(encoding="utf-8").split("```python\n")[1].split("```")[0]
        told, names = io.StringIO(), {}
        with contextlib.redirect_stdout(told):
            exec(code, names)
        self.assertTrue(told.getvalue().startswith("module counter\n  input step: 1\n"))
        self.assertEqual(names["width_of"](names["design"], "counter", names["expression"]), 8)
        self.assertEqual(names["names_in"](names["expression"]), ("count", "more"))


if __name__ == "__main__":
    unittest.main()
