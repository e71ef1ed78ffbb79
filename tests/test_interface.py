"""The interface of the document: names, arguments, and the files and classes in which they are defined."""

import ast
import importlib
import inspect
import unittest
from pathlib import Path

from answeredabove.ask.spare import least_sets
from answeredabove.ask.watch import Answers
from answeredabove.house.project import Project
from answeredabove.run.runs import Run
from answeredabove.text.shell import Shell
from tests.helpers import NEED

TOP = Path(__file__).resolve().parent.parent
FUNCTIONS = {
    "answeredabove.base.words": {"is_name": "value"},
    "answeredabove.text.texts": {"write_program": "program", "read_program": "text"},
    "answeredabove.run.runs": {
        "is_situation": "program value", "looked_up": "program situation signal", "options": "program table situation",
    },
    "answeredabove.know.tables": {
        "is_table": "program value", "empty_table": "program", "full_table": "program",
        "entry": "program table signal mode", "with_entry": "program table signal mode modes",
        "is_within": "program one other", "joined": "program one other",
    },
    "answeredabove.know.does": {
        "does": "program name mode table", "reached": "program name mode table", "inner_table": "program table site",
    },
    "answeredabove.know.derivations": {
        "is_fact": "program value", "is_derivation": "program value", "derivation_of": "program fact",
        "run_of": "program derivation",
    },
    "answeredabove.know.books": {
        "contexts_met": "program name mode table", "book_of": "program", "is_book": "program value",
    },
    "answeredabove.ask.ends": {
        "is_end": "program value", "outcome": "program", "can_end": "program end", "end_paper": "program end",
        "is_end_paper": "program end value",
    },
    "answeredabove.ask.watch": {
        "watched": "program", "answerers": "program site", "run_with": "program answer mode",
    },
    "answeredabove.ask.nests": {
        "deepest": "program", "deep_run": "program many", "depth_paper": "program many",
        "is_depth_paper": "program many value",
    },
    "answeredabove.ask.spare": {
        "is_spare": "program answers", "spare_answers": "program", "least_sets": "program chosen aim",
    },
    "answeredabove.same.alike": {
        "surrounding": "program name mode table", "are_alike": "one other name", "parting": "one other name",
        "is_parting": "one other name value",
    },
    "answeredabove.same.editions": {
        "new_ends": "one other", "replaced": "program other name", "changes": "one other",
    },
}
CONSTANTS = {
    "answeredabove.ask.nests": {"MAX_DEPTH": 40}, "answeredabove.ask.spare": {"MAX_CHOSEN": 6},
    "answeredabove.text.shell": {"MAX_PROGRAMS": 8},
}
METHODS = {
    "answeredabove.base.programs.Procedure": ["of", "called", "points", "moves", "__eq__", "__len__", "__str__"],
    "answeredabove.base.programs.Program": [
        "of", "modes", "starts", "signals", "procedures", "names", "main", "calls", "raises", "answers", "__getitem__",
        "move", "with_starts", "with_procedure", "without", "with_answers", "without_answers", "renamed", "__contains__",
        "__len__", "__eq__", "__str__",
    ],
    "answeredabove.run.runs.Run": [
        "__init__", "of", "own", "program", "called", "table", "choices", "situation", "situations", "mode", "has_ended",
        "deepest", "answered", "__add__", "back", "__len__", "__eq__", "__str__",
    ],
    "answeredabove.ask.watch.Answers": [
        "__init__", "program", "begun", "__getitem__", "resumed", "unwound", "idle", "__len__", "__contains__", "__eq__",
        "__str__",
    ],
    "answeredabove.house.project.Project": [
        "__init__", "program", "promises", "deeds", "__getitem__", "promise", "forget", "put", "drop", "answer", "start",
        "undo", "redo", "trial", "during", "twin", "__contains__", "__len__", "__eq__", "__str__",
    ],
    "answeredabove.text.shell.Shell": [
        "__init__", "run", "__call__", "names", "programs", "script", "__contains__", "__len__", "__eq__", "replayed",
        "__str__",
    ],
}
SIGNATURES = {
    Answers: "(program)", Answers.begun: "(self, answer)", Answers.resumed: "(self, answer)",
    Answers.unwound: "(self, answer)", least_sets: "(program, chosen, *, aim='answered')", Project: "(program)",
    Project.promise: "(self, name, *terms)", Project.forget: "(self, name)", Project.put: "(self, procedure)",
    Project.drop: "(self, name)", Project.answer: "(self, site, answers)", Project.start: "(self, starts)",
    Project.undo: "(self, *, many=1)", Project.redo: "(self, *, many=1)", Project.trial: "(self)",
    Project.during: "(self, call)", Project.twin: "(self)", Shell: "()", Shell.run: "(self, command)",
    Shell.__call__: "(self, command)", Shell.replayed: "(script)",
}


class TestInterface(unittest.TestCase):
    def test_functions(self):
        for module, functions in FUNCTIONS.items():
            tree = ast.parse(TOP.joinpath(*module.split(".")).with_suffix(".py").read_text())
            defined = [node.name for node in tree.body if isinstance(node, ast.FunctionDef)]
            for name, parameters in functions.items():
                function = getattr(importlib.import_module(module), name)
                self.assertIn(name, defined)
                self.assertEqual(list(inspect.signature(function).parameters), parameters.split())

    def test_constants(self):
        for module, constants in CONSTANTS.items():
            for name, value in constants.items():
                self.assertEqual(getattr(importlib.import_module(module), name), value)

    def test_classes(self):
        for path, methods in METHODS.items():
            module, _, name = path.rpartition(".")
            made = getattr(importlib.import_module(module), name)
            self.assertEqual(made.__module__, module)
            for method in methods:
                self.assertIn(method, vars(made), path)

    def test_arguments_of_runs(self):
        self.assertEqual(str(inspect.signature(Run)), "(program, name, mode, table, *choices)")
        self.assertEqual(str(inspect.signature(Run.of)), "(program, name, mode, table, choices)")
        self.assertEqual(str(inspect.signature(Run.own)), "(program, start, choices)")
        self.assertEqual(str(inspect.signature(Run.own(NEED, 0, ()).back)), "(*, many=1)")

    def test_arguments_of_classes(self):
        for call, arguments in SIGNATURES.items():
            self.assertEqual(str(inspect.signature(call)), arguments)

    def test_nothing_beside_the_program(self):
        for folder in ("base", "text", "run", "know", "ask", "same", "house"):
            self.assertTrue((TOP / "answeredabove" / folder / "__init__.py").is_file())


if __name__ == "__main__":
    unittest.main()
