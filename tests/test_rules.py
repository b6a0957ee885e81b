"""What of ../shared/LANGUAGE.md can be told by counting: the files (L1, L14), imports (L2) and sizes (L10)."""

import ast
import pathlib
import unittest

PACKAGE = pathlib.Path(__file__).resolve().parent.parent / "lostlines"
LIBRARY = ("heapq", "math", "itertools", "collections", "__future__")
LEFT_OUT = (
    ast.AsyncFunctionDef, ast.AsyncFor, ast.AsyncWith, ast.Await, ast.TryStar, ast.Import, ast.Div, ast.MatMult,
)


def files():
    return sorted(path for path in PACKAGE.rglob("*.py"))


class Rules(unittest.TestCase):
    def test_there_are_files(self):
        names = [path.name for path in files()]
        for name in ("__init__.py", "errors.py", "machines.py", "losses.py"):
            self.assertIn(name, names)

    def test_nothing_but_python(self):
        for path in PACKAGE.rglob("*"):
            if path.is_file() and path.parent.name != "__pycache__":
                self.assertEqual(path.suffix, ".py", path)

    def test_characters_and_lengths(self):
        for path in files():
            rows = path.read_text(encoding="utf-8").split("\n")
            self.assertLessEqual(len(rows), 400, path)
            for number, row in enumerate(rows, 1):
                self.assertLessEqual(len(row), 120, f"{path}:{number}")
                self.assertTrue(all(" " <= sign <= "~" for sign in row), f"{path}:{number}")

    def test_functions_and_statements(self):
        for path in files():
            if path.name == "__main__.py":
                continue
            for node in ast.walk(ast.parse(path.read_text(encoding="utf-8"))):
                where = f"{path}:{getattr(node, 'lineno', 0)}"
                self.assertNotIsInstance(node, LEFT_OUT, where)
                if isinstance(node, ast.FunctionDef):
                    self.assertLessEqual(node.end_lineno - node.lineno + 1, 40, where)
                if isinstance(node, ast.Constant):
                    self.assertNotIsInstance(node.value, (float, complex), where)
                if isinstance(node, ast.ImportFrom):
                    self.assertEqual(node.level, 0, where)
                    self.assertIn(node.module.split(".")[0], ("lostlines", *LIBRARY), where)


if __name__ == "__main__":
    unittest.main()
