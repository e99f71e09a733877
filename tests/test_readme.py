"""The examples of README.md tell what they say."""

import ast
import pathlib
import re
import unittest

README = pathlib.Path(__file__).resolve().parent.parent / "README.md"


class ReadmeTest(unittest.TestCase):
    def test_examples(self):
        code = "\n".join(re.findall(r"```python\n(.*?)```", README.read_text(encoding="utf-8"), re.DOTALL))
        lines, names, asked = code.split("\n"), {}, 0
        for node in ast.parse(code).body:
            if not isinstance(node, ast.Expr):
                exec(ast.unparse(node), names)
                continue
            told = eval(ast.unparse(node), names)
            expected = lines[node.end_lineno - 1].partition("#")[2].strip()
            if expected:
                self.assertEqual(repr(told), expected, lines[node.lineno - 1])
                asked += 1
        self.assertGreater(asked, 25)


if __name__ == "__main__":
    unittest.main()
