"""The files of the package keep to sizes, characters, imports and names of the rules L1, L2, L5, L10, L14 to L18."""

import ast
import builtins
import unittest
from pathlib import Path

from tests.reach import Reach, barred

TOP = Path(__file__).resolve().parent.parent
PACKAGE = TOP / "answeredabove"
LIBRARY = ("heapq", "math", "itertools", "collections")
CHANGING = ("append", "clear", "extend", "insert", "pop", "remove", "reverse", "setdefault", "update")
BARRED = ("register", "mro", "elements", "open", "input", "law", "version_info", "with_traceback", "add_note")


def files():
    """The files of the package."""
    return sorted(path for path in PACKAGE.rglob("*.py"))


def trees():
    """The files of the package with their trees."""
    return [(path, ast.parse(path.read_text())) for path in files()]


def nodes(tree, *kinds):
    """The nodes of a tree that are of these kinds."""
    return [node for node in ast.walk(tree) if isinstance(node, kinds)]


def bound(function):
    """The names that a function binds: its parameters and its variables."""
    found = {node.arg for node in nodes(function.args, ast.arg)}
    return found | {node.id for node in nodes(function, ast.Name) if isinstance(node.ctx, ast.Store)}


def held(node):
    """The node from which items are taken, as text."""
    while isinstance(node, ast.Subscript):
        node = node.value
    return ast.unparse(node)


def gone_over(node):
    """What a loop goes over, as texts: names, attributes and items, also by enumerate, zip and the views of a dict."""
    if isinstance(node, (ast.Name, ast.Attribute, ast.Subscript)):
        return [ast.unparse(node), held(node)]
    if isinstance(node, ast.Call) and getattr(node.func, "id", None) in ("enumerate", "zip"):
        return [text for part in node.args for text in gone_over(part)]
    if isinstance(node, ast.Call) and getattr(node.func, "attr", None) in ("items", "keys", "values"):
        return gone_over(node.func.value)
    return []


def changed_in(loop):
    """What the rows of a loop change, as texts."""
    found = []
    for row in loop.body:
        for node in nodes(row, ast.Subscript):
            if not isinstance(node.ctx, ast.Load):
                found += [ast.unparse(node), held(node)]
        for node in nodes(row, ast.Call):
            if getattr(node.func, "attr", None) in CHANGING:
                found += [ast.unparse(node.func.value), held(node.func.value)]
    return found


class TestLanguage(unittest.TestCase):
    def test_only_files_of_python(self):
        for path in PACKAGE.rglob("*"):
            if path.name != "__pycache__" and path.parent.name != "__pycache__":
                self.assertTrue(path.is_dir() or path.suffix == ".py", path)
        for path in files():
            self.assertTrue((path.parent / "__init__.py").is_file(), path)
            self.assertRegex(path.stem, "^[a-z0-9_]+$")

    def test_characters_and_lines(self):
        for path in files():
            text = path.read_bytes()
            self.assertTrue(all(code == 10 or 32 <= code <= 126 for code in text), path)
            lines = text.decode("ascii").split("\n")
            self.assertLessEqual(len(lines), 399, path)
            self.assertLessEqual(max(map(len, lines)), 120, path)

    def test_functions_are_small(self):
        for path in files():
            for node in ast.walk(ast.parse(path.read_text())):
                if isinstance(node, ast.FunctionDef):
                    self.assertLessEqual(node.end_lineno - node.lineno + 1, 40, (path, node.name))

    def test_imports(self):
        for path in files():
            for node in ast.walk(ast.parse(path.read_text())):
                if isinstance(node, ast.Import):
                    self.assertEqual((path.name, [each.name for each in node.names]), ("__main__.py", ["sys"]))
                if isinstance(node, ast.ImportFrom):
                    self.assertEqual(node.level, 0, path)
                    self.assert_import(path, node)

    def assert_import(self, path, node):
        if node.module in LIBRARY:
            return
        source = TOP.joinpath(*node.module.split(".")).with_suffix(".py")
        self.assertEqual(node.module.split(".")[0], "answeredabove", path)
        names = [each.name for each in ast.parse(source.read_text()).body if hasattr(each, "name")]
        for name in node.names:
            self.assertIn(name.name, names + [name.name] * name.name.isupper(), path)

    def test_no_barred_names(self):
        for path in files():
            for node in ast.walk(ast.parse(path.read_text())):
                for field in ("id", "attr", "name", "arg"):
                    self.assertNotIn(getattr(node, field, None), BARRED, path)

    def test_no_percent_and_no_generator_expression(self):
        for path in files():
            for node in ast.walk(ast.parse(path.read_text())):
                self.assertNotIsInstance(node, ast.GeneratorExp, path)
                if isinstance(node, ast.Constant) and isinstance(node.value, str):
                    self.assertNotIn("%", node.value, path)

    def test_names_that_mean_something_else(self):
        for path, tree in trees():
            taken = {each.name for node in nodes(tree, ast.ImportFrom) for each in node.names}
            taken |= {node.name for node in nodes(tree, ast.ClassDef)}
            for function in nodes(tree, ast.FunctionDef, ast.Lambda):
                # A doctest that ran ahead leaves `_` among them.
                self.assertEqual(bound(function) & (taken | set(dir(builtins)) - {"_"}), set(), path)
            top = [node.name for node in tree.body if isinstance(node, (ast.FunctionDef, ast.ClassDef))]
            self.assertEqual(set(top) & (taken - {node.name for node in nodes(tree, ast.ClassDef)}), set(), path)
            self.assertEqual(len(top), len(set(top)), path)

    def test_each_import_is_used_and_none_goes_round(self):
        needs = {}
        for path, tree in trees():
            used = {node.id for node in nodes(tree, ast.Name)}
            for node in nodes(tree, ast.ImportFrom):
                self.assertLessEqual({each.name for each in node.names}, used, path)
                needs.setdefault(".".join(path.relative_to(TOP).with_suffix("").parts), set()).add(node.module)
        done = set(LIBRARY)
        modules = {".".join(path.relative_to(TOP).with_suffix("").parts) for path in files()}
        for _ in modules:
            done |= {module for module in modules if needs.get(module, set()) <= done}
        self.assertLessEqual(modules, done)

    def test_properties_methods_and_attributes(self):
        properties, methods, attributes = set(), set(), set()
        for _, tree in trees():
            for made in nodes(tree, ast.ClassDef):
                for method in [each for each in made.body if isinstance(each, ast.FunctionDef)]:
                    marks = [each.id for each in method.decorator_list]
                    (properties if "property" in marks else methods).add(method.name)
            attributes |= {node.attr for node in nodes(tree, ast.Attribute) if isinstance(node.ctx, ast.Store)}
        self.assertEqual(properties & methods, set())
        self.assertEqual((properties | methods) & attributes, set())

    def test_loops_do_not_change_what_they_go_over(self):
        for path, tree in trees():
            for loop in nodes(tree, ast.For):
                self.assertEqual(set(gone_over(loop.iter)) & set(changed_in(loop)), set(), (path, loop.lineno))

    def test_attributes_are_assigned_through_names(self):
        for path, tree in trees():
            top = {node.id for row in tree.body for node in nodes(row, ast.Name) if isinstance(row, ast.Assign)}
            for node in nodes(tree, ast.Attribute):
                if not isinstance(node.ctx, ast.Load):
                    self.assertIsInstance(node.value, ast.Name, (path, node.lineno))
                    self.assertNotIn(node.value.id, top, (path, node.lineno))

    def test_each_attribute_that_is_read_is_there(self):
        known = set(CHANGING) | {"items", "values", "keys", "get", "index", "count", "join", "split", "partition"}
        known |= {"startswith", "bit_length"}
        for _, tree in trees():
            known |= {node.attr for node in nodes(tree, ast.Attribute) if not isinstance(node.ctx, ast.Load)}
            known |= {part.name for made in nodes(tree, ast.ClassDef) for part in nodes(made, ast.FunctionDef)}
        for path, tree in trees():
            for node in nodes(tree, ast.Attribute):
                self.assertIn(node.attr, known, (path, node.lineno))

    def test_no_reversed_and_no_words_of_frames(self):
        for path, tree in trees():
            for node in nodes(tree, ast.Call):
                self.assertNotIn(getattr(node.func, "id", None), ("reversed", "map", "iter", "next", "chr", "print"), path)
            self.assertEqual(nodes(tree, ast.Global, ast.AsyncFunctionDef, ast.Yield, ast.Div), [], path)

    def test_operators_and_properties_assign_as_they_may(self):
        reached = Reach(trees()).all()
        for at in (("run.runs", "Run.__add__"), ("run.runs", "_options_under"), ("know.tables", "mask_of_table"),
                   ("know.tables", "mask_of_modes"), ("base.programs", "_sites"), ("text.shell", "Shell.names")):
            self.assertIn(("answeredabove." + at[0], at[1]), reached)
        for at, function in reached.items():
            self.assertEqual(barred(function), [], at)

    def test_operators_and_properties_change_nothing(self):
        for at, function in Reach(trees()).all().items():
            made = {
                name.id for node in nodes(function, ast.Assign) for name in node.targets if isinstance(name, ast.Name)
                if isinstance(node.value, (ast.Call, ast.List, ast.Dict, ast.ListComp, ast.DictComp))
            }
            made |= {"self"} if at[1].endswith(".__init__") else set()
            changed = [node.value for node in nodes(function, ast.Attribute, ast.Subscript)
                       if not isinstance(node.ctx, ast.Load)]
            changed += [node.func.value for node in nodes(function, ast.Call)
                        if getattr(node.func, "attr", None) in CHANGING]
            for value in changed:
                self.assertIn(getattr(value, "id", None), made, (at, ast.unparse(value)))

    def test_what_is_barred(self):
        for rows, many in (
            ("mask = 0; mask |= 1", 1), ("mask = 0; mask <<= 1", 1), ("many = 0; many += 1", 0), ("x = f(); x += 1", 0),
            ("shift = 0; shift += modes", 0), ("x = f(); x += y", 1), ("found = []; found += y", 0), ("a.b += 1", 1),
            ("x[0] += 1", 1), ("at -= 1; at //= 2", 0), ("p += 1", 1), ("x = 0; x ^= 1; x &= 2", 2), ("x = 1; x *= y", 0),
            ("x = f(); x *= y", 1), ("for x in y: x += z", 1),
        ):
            function = ast.parse("def f(p):\n    " + rows).body[0]
            self.assertEqual(len(barred(function)), many, rows)


if __name__ == "__main__":
    unittest.main()
