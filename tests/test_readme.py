"""What README.md shows can be done so, and tells what it says."""

import ast
import contextlib
import io
import re
import unittest
from pathlib import Path

README = Path(__file__).resolve().parent.parent / "README.md"


def told_lines(code):
    """The pairs (expression, value) of the lines that are an expression with a plain value behind it."""
    for line in code.split("\n"):
        parts = re.split(r" +# ", line)
        try:
            yield ast.parse(parts[0], mode="eval").body, ast.literal_eval(parts[1])
        except (SyntaxError, ValueError, IndexError):
            continue


class Readme(unittest.TestCase):
    def test_the_examples(self):
        names, told, many = {}, io.StringIO(), 0
        for part in README.read_text(encoding="utf-8").split("```python\n")[1:]:
            code = part.split("```")[0]
            with contextlib.redirect_stdout(told):
                exec(code, names)
            for expression, value in told_lines(code):
                self.assertEqual(eval(compile(ast.Expression(expression), "README.md", "eval"), names), value)
                many += 1
        self.assertTrue(told.getvalue().startswith("module counter\n  input step: 1\n"))
        self.assertGreaterEqual(many, 6)


if __name__ == "__main__":
    unittest.main()
