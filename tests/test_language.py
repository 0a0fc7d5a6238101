"""The rules for the files of the package that can be read off them: sizes, characters, imports."""

import ast
import unittest
from pathlib import Path

PACKAGE = Path(__file__).resolve().parent.parent / "missedparts"
LIBRARY = {"heapq", "math", "itertools", "collections", "__future__"}


def sources():
    """Each file of the package with what is written in it."""
    return [(path, path.read_text(encoding="utf-8")) for path in sorted(PACKAGE.rglob("*.py"))]


class Files(unittest.TestCase):
    def test_files_are_python_alone(self):
        for path in PACKAGE.rglob("*"):
            if "__pycache__" not in path.parts and path.is_file():
                self.assertEqual(path.suffix, ".py", path)

    def test_sizes(self):
        for path, text in sources():
            lines = text.split("\n")
            self.assertLessEqual(len(lines), 400, path)
            self.assertLessEqual(max(len(line) for line in lines), 120, path)
            for node in ast.walk(ast.parse(text)):
                if isinstance(node, ast.FunctionDef):
                    self.assertLessEqual(node.end_lineno - node.lineno + 1, 40, (path, node.name))

    def test_characters(self):
        for path, text in sources():
            self.assertTrue(all(letter == "\n" or " " <= letter <= "~" for letter in text), path)

    def test_no_percent_sign_in_strings(self):
        for path, text in sources():
            for node in ast.walk(ast.parse(text)):
                if isinstance(node, ast.Constant) and isinstance(node.value, str):
                    self.assertNotIn("%", node.value, path)

    def test_imports(self):
        for path, text in sources():
            for node in ast.walk(ast.parse(text)):
                self.assertNotIsInstance(node, ast.Import, path)
                if isinstance(node, ast.ImportFrom):
                    self.assertEqual(node.level, 0, path)
                    top = node.module.split(".")[0]
                    self.assertTrue(top == "missedparts" or node.module in LIBRARY, (path, node.module))
                    self.assertNotIn("*", [name.name for name in node.names], path)


if __name__ == "__main__":
    unittest.main()
