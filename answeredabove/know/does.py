"""What procedures do: the leaves and escapes of contexts, the points they come to, and the inner tables of calls."""

from answeredabove.base.checks import check_program
from answeredabove.base.programs import is_call
from answeredabove.errors import UnknownSite
from answeredabove.know.masks import escapes_of, modes_of, table_mask, table_of
from answeredabove.know.meetings import Meeting
from answeredabove.know.plans import answering, inner_mask
from answeredabove.know.solvers import Solver
from answeredabove.know.tables import check_context, check_table


def does(program, name, mode, table):
    """The pair of the leaves and the escapes of a context."""
    walk = _walk(program, name, mode, table)
    return modes_of(walk.left), escapes_of(program, walk.escaped)


def reached(program, name, mode, table):
    """The pairs of a point and a mode to which the procedure comes in a context, ascending."""
    walk = _walk(program, name, mode, table)
    states = modes_of(walk.come)
    return tuple([(state // program.modes, state % program.modes) for state in states])


def inner_table(program, table, site):
    """The inner table of the call at a site under a table."""
    check_program(program)
    check_table(program, table)
    if not is_call(program, site):
        raise UnknownSite(site)
    solver = Solver(program)
    call = solver.plan.calling[site]
    mask = table_mask(program, table)
    for context in answering(solver.plan, mask, call):
        # Each context has a limit of its own, so each is asked alone.
        Meeting(solver, [context])
    return table_of(program, inner_mask(solver.plan, solver.sure, mask, call))


def _walk(program, name, mode, table):
    check_context(program, name, mode, table)
    solver = Solver(program)
    context = solver.plan.packed(name, mode, table)
    return Meeting(solver, [context]).walks[context]
