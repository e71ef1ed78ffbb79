"""Guides: parts of the program's own runs, which lead along contexts that are met."""

from answeredabove.know.derivations import derivation_known
from answeredabove.know.follows import Follower
from answeredabove.know.meetings import MOST_TABLES, Meeting, cells_apart, own_roots
from answeredabove.know.plans import plan_of
from answeredabove.know.tables import empty_table
from answeredabove.know.traces import Trace
from answeredabove.run.runs import Run


class Guide:
    """What is known of the contexts that the program's own runs meet, and the ways through them.

    Contexts are told as pairs (spot, mask of the table). A part is a pair of a fact and a path, as a Follower takes
    them. The ways do not hang on what was asked before.
    """

    def __init__(self, program):
        self.plan = plan_of(program)
        self._solver, _ = cells_apart(program, own_roots(program))
        self.meeting = Meeting(self._solver, own_roots(program), MOST_TABLES)
        self._program = program
        self._traces = {}
        self._paths = {}

    def way(self, context, point, mode):
        """The path to a point in a mode within a context, or None if the context does not come to it."""
        cell = self.meeting.cell(context[0], context[1])
        if cell.number not in self._traces:
            told = {(need.spot, need.mask): (need.left, need.escaped) for need in cell.needs}
            self._traces[cell.number] = Trace(self.plan, told, cell.spot, cell.mask)
        found = self._traces[cell.number].found((point, mode))
        return None if found is None else found[0]

    def entering(self, context, index, mode):
        """The part within a context up to the call or the raise with this index, made in this mode."""
        name = self.plan.name_at(context[0])
        path = self.way(context, self._program[name].moves[index][1], mode)
        return ("enters",) + self.plan.unpacked(context[0], context[1]), path + (("enter", index),)

    def escaping(self, context, at):
        """The part that goes through a context up to the raise that escapes from it with this bit."""
        escape = self.plan.escapes_of(1 << at)[0]
        fact = ("escapes",) + self.plan.unpacked(context[0], context[1]) + escape
        return fact, self.path_of(fact)

    def path_of(self, fact):
        """The path of a fact that is true."""
        if fact not in self._paths:
            # Lines that are there already rest on none of the new ones, so they can stay.
            for told, path in derivation_known(self._solver, self._program, fact):
                self._paths.setdefault(told, path)
        return self._paths[fact]

    def run_along(self, start, parts):
        """The program's own run from a start along parts."""
        first = (start, (), (self._program.main, 0))
        follower = Follower(self._program, empty_table(self._program), first, self)
        return Run.own(self._program, start, follower.taken(parts))
