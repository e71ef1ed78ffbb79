"""Guides: parts of the program's own runs, which lead along contexts that are met."""

from answeredabove.know.books import own_meeting
from answeredabove.know.derivations import derivation_known
from answeredabove.know.follows import Follower
from answeredabove.know.masks import escapes_of
from answeredabove.know.solvers import Solver
from answeredabove.know.tables import empty_table
from answeredabove.know.traces import Trace
from answeredabove.run.runs import Run


class Guide:
    """What is known of the contexts that the program's own runs meet, and the ways through them.

    Contexts are told by masks. A part is a pair of a fact and a path, as a Follower takes them.
    """

    def __init__(self, program):
        self.solver = Solver(program)
        self.meeting = own_meeting(self.solver)
        self._program = program
        self._traces = {}
        self._paths = {}

    def way(self, context, point, mode):
        """The path to a point in a mode within a context, or None if the context does not come to it."""
        if context not in self._traces:
            told = {need: self.solver.sure[need] for need in self.meeting.walks[context].needs}
            self._traces[context] = Trace(self.solver.plan, told, context)
        return self._traces[context].path_to((point, mode))

    def entering(self, context, index, mode):
        """The part within a context up to the call or the raise with this index, made in this mode."""
        name = self.solver.plan.order[context[0]]
        path = self.way(context, self._program[name].moves[index][1], mode)
        return ("enters",) + self.solver.plan.unpacked(context), path + (("enter", index),)

    def escaping(self, context, at):
        """The part that goes through a context up to the raise that escapes from it with this bit."""
        escape = escapes_of(self._program, 1 << at)[0]
        fact = ("escapes",) + self.solver.plan.unpacked(context) + escape
        return fact, self.path_of(fact)

    def path_of(self, fact):
        """The path of a fact that is true."""
        if fact not in self._paths:
            # Lines that are there already rest on none of the new ones, so they can stay.
            for told, path in derivation_known(self.solver, fact):
                self._paths.setdefault(told, path)
        return self._paths[fact]

    def run_along(self, start, parts):
        """The program's own run from a start along parts."""
        first = (start, (), (self._program.main, 0))
        follower = Follower(self._program, empty_table(self._program), first, self)
        return Run.own(self._program, start, follower.taken(parts))
