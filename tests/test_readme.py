"""Runs the examples of README.md: what a remark tells first is the value of its row."""

import ast
import pathlib
import re
import unittest

README = pathlib.Path(__file__).resolve().parent.parent / "README.md"


def reckons(code):
    return any(isinstance(part, (ast.Call, ast.Subscript)) for part in ast.walk(ast.parse(code)))


def told_by_remarks(block):
    """The rows that reckon something and have a remark, and the remark's words."""
    for line in block.split("\n"):
        code, mark, words = line.partition("#")
        if mark and reckons(code.strip()):
            yield code.strip(), words.strip()


def value_of(code, names):
    exec(code, names)
    part = ast.parse(code).body[0]
    return eval(ast.unparse(part.targets[0] if isinstance(part, ast.Assign) else part), names)


class ReadmeTest(unittest.TestCase):
    def test_the_examples_are_true(self):
        blocks = re.findall(r"```python\n(.*?)```", README.read_text(encoding="utf-8"), re.DOTALL)
        self.assertEqual(len(blocks), 7)
        names = {}
        for block in blocks:
            exec(block, names)
            rows = list(told_by_remarks(block))
            self.assertNotEqual(rows, [])
            for code, words in rows:
                shown = repr(value_of(code, names)).replace("'", '"')
                self.assertEqual(words[:len(shown)], shown, code)
                self.assertRegex(words[len(shown):], r"^([,;] |$)", code)
