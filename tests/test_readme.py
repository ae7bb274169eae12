"""Tests that the README's examples give what they say."""

import ast
import re
import unittest
from pathlib import Path

README = Path(__file__).resolve().parent.parent / "README.md"


class ReadmeTest(unittest.TestCase):
    def test_examples(self):
        code = re.search(r"```python\n(.*?)```", README.read_text(), re.DOTALL).group(1)
        rows = code.splitlines()
        names = {}
        for node in ast.parse(code).body:
            text = ast.get_source_segment(code, node)
            if isinstance(node, ast.Expr):
                told = rows[node.end_lineno - 1].partition("# ")[2]
                with self.subTest(text=text):
                    self.assertTrue((told + ":").startswith(repr(eval(text, names)) + ":"))
            else:
                exec(text, names)
