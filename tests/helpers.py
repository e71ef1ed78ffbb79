"""Programs and wrong values that several tests use."""

import unittest

from answeredabove.ask.watch import Answers
from answeredabove.base.programs import Procedure, Program
from answeredabove.errors import InvalidProgram, UnknownName, UnknownSite
from answeredabove.house.project import Project
from answeredabove.run.runs import Run
from answeredabove.text.shell import Shell

FIX = Procedure("fix", 1, ("go", 0, 0, ((0, 1),)), ("leave", 0, (0, 1)))
WORK = Procedure("work", 2, ("raise", 0, 1, "need", (0, 1)), ("leave", 1, (1,)))
MAIN = Procedure(
    "main", 3,
    ("call", 0, 1, "work", (0,), (("need", "fix", ((0, 2),)),)), ("leave", 1, (0, 1)), ("leave", 2, (0,)),
)
NEED = Program(2, (0,), ("need",), MAIN, WORK, FIX)
DEEP = Procedure(
    "deep", 2,
    ("call", 0, 1, "deep", (0,), (("ask", "pass", ()),)), ("raise", 0, 1, "ask", (0,)), ("leave", 1, (0,)),
)
PASS = Program(
    1, (0,), ("ask",), DEEP, Procedure("pass", 2, ("raise", 0, 1, "ask", (0,)), ("leave", 1, (0,))),
)
WIDE = Procedure(
    "wide", 6,
    (
        "call", 0, 1, "fix", (0, 3),
        (("halt", "wide", ()), ("need", "fix", ((0, 2), (1, 0), (3, 5))), ("stop", "fix", ())),
    ),
    ("call", 2, 2, "wide", (1,), ()),
    ("raise", 1, 4, "stop", (0, 1, 2, 3)),
    ("go", 3, 5, ((0, 0), (0, 3), (2, 1))),
    ("call", 0, 5, "fix", (2,), (("stop", "wide", ((2, 1),)),)),
    ("raise", 5, 0, "halt", (2,)),
    ("leave", 5, (0, 2)),
    ("leave", 5, (0, 2)),
)
FULL = Program(4, (1, 3), ("halt", "need", "stop"), WIDE, FIX)


def nested(kind, depth):
    """A tuple, list or dict of the kind's own, nested so deep."""
    value = kind()
    for _ in range(depth - 1):
        value = {0: value} if kind is dict else kind([value])
    return value


# None of these is a name, a mode, a point, a number, a tuple with entries, a procedure or a program of use.
ODD = [
    None, -1, -7, 13, 10 ** 39, -(10 ** 39), 10 ** 40 - 1,
    "", "Need", "needlessly", "need ", "need\n", "\n", "a b", "n33d", "a-b", "0", "~", "{}",
    [], {}, [0], [0, 1], ["need"], {"main": "work"}, {0: 1}, [("leave", 0, (0,))],
    (None,), ((),), ("",), ([],), ({},), (-1,), (9, 0), (0, 9), ("need", 0), ("Go",), (0, "need"),
    (True,), (False,), (False, True), ("leave", "0", (0,)), ((1, 0), (0, 0)), (((),),),
    nested(tuple, 12), nested(list, 12), nested(dict, 12),
    NEED, PASS, InvalidProgram("need"), UnknownName("need"), UnknownSite(("main", 0)), Run.own(NEED, 0, ()),
    Answers(NEED), Project(NEED), Shell(),
]
BOOLS = [True, False]
# None of these is a program.
NO_PROGRAMS = [value for value in ODD + BOOLS if not isinstance(value, Program)] + [0, (), "main", FIX, ("main", 0)]


def paths(value):
    """The paths to all parts of nested tuples, () for the value itself."""
    found = [()]
    if isinstance(value, tuple):
        for at, part in enumerate(value):
            found.extend((at, *path) for path in paths(part))
    return found


def part(value, path):
    """The part of nested tuples to which the path leads."""
    for at in path:
        value = value[at]
    return value


def changed(value, path, new):
    """Nested tuples with another part at the path."""
    if path == ():
        return new
    at, *rest = path
    return value[:at] + (changed(value[at], tuple(rest), new),) + value[at + 1:]


def spoiled(value):
    """Nested tuples of names, modes and points, each with one part of a wrong kind."""
    for path in paths(value):
        here = part(value, path)
        for odd in ODD + BOOLS:
            yield changed(value, path, odd)
        if isinstance(here, tuple):
            yield changed(value, path, list(here))
            yield changed(value, path, here + (None,))
            yield changed(value, path, here + (here[0] if here else "",))


class Checks(unittest.TestCase):
    """Checks that the tests of several stages share."""

    def refuse(self, error, call, *arguments, **keywords):
        """The call raises just this error."""
        with self.assertRaises(error) as caught:
            call(*arguments, **keywords)
        self.assertIs(type(caught.exception), error)
        return caught.exception

    def check_order(self, call, *rows):
        """The first wrong argument is refused, whatever is behind it.

        Each row has a right argument, the error for wrong ones, the attribute that keeps them or None, and wrong ones.
        """
        call(*[row[0] for row in rows])
        for at, (_, error, kept, wrong) in enumerate(rows):
            for behind in range(2 ** (len(rows) - at - 1)):
                for value in wrong:
                    arguments = [row[0] for row in rows[:at]] + [value]
                    for place, row in enumerate(rows[at + 1:]):
                        arguments.append(row[3][0] if behind >> place & 1 else row[0])
                    raised = self.refuse(error, call, *arguments)
                    if kept is not None:
                        self.assertIs(getattr(raised, kept), value)
