"""The functions of the package that are called by operators, by properties, and by __eq__, __str__, __len__ and the
like, through what they call."""

import ast

# These may change something, or nothing but what they hand back.
FREE = ("__init__", "__enter__", "__exit__", "__call__", "__iter__")
# What is assigned these alone is surely a number, a string or a list of its own.
PLAIN = (ast.Constant, ast.List)
MAKING = ("list", "len", "int", "ord", "str")


class Reach:
    """The functions of trees of files; a method is called by its name, whatever the object is."""

    def __init__(self, trees):
        self.functions = {}
        self._known = {}
        self._methods = {}
        for path, tree in trees:
            module = ".".join(path.with_suffix("").parts[path.parts.index("answeredabove"):])
            for node in tree.body:
                self._take(module, node)
        self.first = [at for at, function in self.functions.items() if _is_first(function)]

    def _take(self, module, node):
        if isinstance(node, ast.ImportFrom):
            for name in node.names:
                self._known[module, name.name] = (node.module, name.name)
        elif isinstance(node, ast.FunctionDef):
            self._known[module, node.name] = (module, node.name)
            self.functions[module, node.name] = node
        elif isinstance(node, ast.ClassDef):
            self._known[module, node.name] = (module, node.name)
            for method in [each for each in node.body if isinstance(each, ast.FunctionDef)]:
                at = (module, f"{node.name}.{method.name}")
                self.functions[at] = method
                self._methods.setdefault(method.name, []).append(at)

    def all(self):
        """The places (module, name) of all functions that are called so, each with its node."""
        found = dict.fromkeys(self.first)
        waiting = list(found)
        while waiting:
            at = waiting.pop()
            new = [each for each in self._called(at) if each in self.functions and each not in found]
            found.update(dict.fromkeys(new))
            waiting.extend(new)
        return {at: self.functions[at] for at in found}

    def _called(self, at):
        found = []
        for node in ast.walk(self.functions[at]):
            if isinstance(node, ast.Attribute):
                found += self._methods.get(node.attr, [])
            elif isinstance(node, ast.Name):
                found.append(self._known.get((at[0], node.id), ("", "")))
            elif isinstance(node, ast.Call) and isinstance(node.func, ast.Name):
                # A class that is only named, as in isinstance, is not called.
                made = at[1].split(".")[0] if node.func.id == "cls" else node.func.id
                module, name = self._known.get((at[0], made), ("", ""))
                found.append((module, name + ".__init__"))
        return found


def _is_first(function):
    marks = [each.id for each in function.decorator_list if isinstance(each, ast.Name)]
    return "property" in marks or function.name.startswith("__") and function.name not in FREE


def barred(function):
    """The assignments with an operator of a function that are not among those that L5 names."""
    return [
        ast.unparse(node) for node in ast.walk(function)
        if isinstance(node, ast.AugAssign) and not _is_named(function, node)
    ]


def _is_named(function, node):
    if not isinstance(node.target, ast.Name) or node.target.id in [each.arg for each in function.args.args]:
        return False
    if isinstance(node.op, (ast.Sub, ast.FloorDiv)):
        return True
    if not isinstance(node.op, (ast.Add, ast.Mult, ast.Mod)):
        return False
    return isinstance(node.value, ast.Constant) or all(map(_is_plain, _assigned(function, node.target.id)))


def _assigned(function, name):
    """The values that a function assigns to a variable by plain assignments, or None for any other way."""
    found = []
    for node in ast.walk(function):
        if isinstance(node, ast.Assign) and name in [getattr(each, "id", None) for each in node.targets]:
            found.append(node.value)
        elif isinstance(node, (ast.For, ast.comprehension)):
            found += [None for each in ast.walk(node.target) if getattr(each, "id", None) == name]
        elif isinstance(node, ast.Tuple) and isinstance(node.ctx, ast.Store):
            found += [None for each in node.elts if getattr(each, "id", None) == name]
    return found


def _is_plain(value):
    return isinstance(value, PLAIN) or isinstance(value, ast.Call) and getattr(value.func, "id", None) in MAKING
