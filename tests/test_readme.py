"""Runs the examples of README.md, and holds each remark that begins with a plain value to what is told there."""

import ast
import contextlib
import io
import pathlib
import re
import unittest

README = pathlib.Path(__file__).resolve().parent.parent / "README.md"


def examples():
    return "\n".join(re.findall(r"```python\n(.*?)```", README.read_text(encoding="utf-8"), re.DOTALL))


def value_in(remark):
    """The plain value with which a remark begins, if it begins with one."""
    for end in range(len(remark), 0, -1):
        if end == len(remark) or remark[end] in ":,":
            try:
                return (ast.literal_eval(remark[:end].strip()),)
            except (SyntaxError, ValueError):
                continue
    return ()


class Readme(unittest.TestCase):

    def test_examples(self):
        source, names, checked = examples(), {}, 0
        rows = source.splitlines()
        with contextlib.redirect_stdout(io.StringIO()) as printed:
            for node in ast.parse(source).body:
                remark = rows[node.end_lineno - 1].partition("# ")[2]
                if isinstance(node, ast.Expr):
                    told = eval(compile(ast.Expression(node.value), "README.md", "eval"), names)
                    for value in value_in(remark):
                        self.assertEqual(told, value, rows[node.lineno - 1])
                        checked += 1
                else:
                    exec(compile(ast.Module([node], []), "README.md", "exec"), names)
        self.assertGreater(checked, 25)
        self.assertEqual(printed.getvalue().splitlines()[:3], ["this is no path", "kept", "2 flat"])


if __name__ == "__main__":
    unittest.main()
