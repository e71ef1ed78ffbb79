"""The files of the package keep to sizes, characters, imports and names of the rules L1, L2, L10, L14, L16, L17."""

import ast
import unittest
from pathlib import Path

TOP = Path(__file__).resolve().parent.parent
PACKAGE = TOP / "answeredabove"
LIBRARY = ("heapq", "math", "itertools", "collections")
BARRED = ("register", "mro", "elements", "open", "input", "law", "version_info", "with_traceback", "add_note")


def files():
    """The files of the package."""
    return sorted(path for path in PACKAGE.rglob("*.py"))


class TestLanguage(unittest.TestCase):
    def test_only_files_of_python(self):
        for path in PACKAGE.rglob("*"):
            if path.name != "__pycache__" and path.parent.name != "__pycache__":
                self.assertTrue(path.is_dir() or path.suffix == ".py", path)
        for path in files():
            self.assertTrue((path.parent / "__init__.py").is_file(), path)
            self.assertRegex(path.stem, "^[a-z0-9_]+$")

    def test_characters_and_lines(self):
        for path in files():
            text = path.read_bytes()
            self.assertTrue(all(code == 10 or 32 <= code <= 126 for code in text), path)
            lines = text.decode("ascii").split("\n")
            self.assertLessEqual(len(lines), 399, path)
            self.assertLessEqual(max(map(len, lines)), 120, path)

    def test_functions_are_small(self):
        for path in files():
            for node in ast.walk(ast.parse(path.read_text())):
                if isinstance(node, ast.FunctionDef):
                    self.assertLessEqual(node.end_lineno - node.lineno + 1, 40, (path, node.name))

    def test_imports(self):
        for path in files():
            for node in ast.walk(ast.parse(path.read_text())):
                if isinstance(node, ast.Import):
                    self.assertEqual((path.name, [each.name for each in node.names]), ("__main__.py", ["sys"]))
                if isinstance(node, ast.ImportFrom):
                    self.assertEqual(node.level, 0, path)
                    self.assert_import(path, node)

    def assert_import(self, path, node):
        if node.module in LIBRARY:
            return
        source = TOP.joinpath(*node.module.split(".")).with_suffix(".py")
        self.assertEqual(node.module.split(".")[0], "answeredabove", path)
        names = [each.name for each in ast.parse(source.read_text()).body if hasattr(each, "name")]
        for name in node.names:
            self.assertIn(name.name, names + [name.name] * name.name.isupper(), path)

    def test_no_barred_names(self):
        for path in files():
            for node in ast.walk(ast.parse(path.read_text())):
                for field in ("id", "attr", "name", "arg"):
                    self.assertNotIn(getattr(node, field, None), BARRED, path)

    def test_no_percent_and_no_generator_expression(self):
        for path in files():
            for node in ast.walk(ast.parse(path.read_text())):
                self.assertNotIsInstance(node, ast.GeneratorExp, path)
                if isinstance(node, ast.Constant) and isinstance(node.value, str):
                    self.assertNotIn("%", node.value, path)


if __name__ == "__main__":
    unittest.main()
