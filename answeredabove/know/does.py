"""What procedures do: the leaves and escapes of contexts, the points they come to, and the inner tables of calls."""

from answeredabove.base.checks import check_program
from answeredabove.base.programs import is_call
from answeredabove.errors import UnknownSite
from answeredabove.know.masks import MODE_SETS, bits_of, mask_of
from answeredabove.know.meetings import cells_at
from answeredabove.know.plans import plan_of
from answeredabove.know.tables import check_context, check_table


def does(program, name, mode, table):
    """The pair of the leaves and the escapes of a context."""
    mask = check_context(program, name, mode, table)
    plan = plan_of(program)
    cell = cells_at(program, [(plan.spot_of(name, mode), mask)])[0]
    return MODE_SETS[cell.left], plan.escapes_of(cell.escaped)


def reached(program, name, mode, table):
    """The pairs of a point and a mode to which the procedure comes in a context, ascending."""
    mask = check_context(program, name, mode, table)
    plan = plan_of(program)
    cell = cells_at(program, [(plan.spot_of(name, mode), mask)])[0]
    return tuple([(state // plan.width, plan.mode_at(state)) for state in bits_of(cell.come)])


def inner_table(program, table, site):
    """The inner table of the call at a site under a table."""
    check_program(program)
    mask = check_table(program, table)
    if not is_call(program, site):
        raise UnknownSite(site)
    plan = plan_of(program)
    inner = mask
    for signal, by, unwinds in program[site[0]].moves[site[1]][5]:
        resumes = plan.full & ~mask_of([mode for mode, _ in unwinds])
        first = plan.spot_of(by, 0)
        shift = plan.place_of(signal, 0) * plan.width
        for spot in range(first, first + plan.width):
            # Each context has a limit of its own, so each is asked alone.
            left = cells_at(program, [(spot, mask)])[0].left
            inner = inner & ~(plan.full << shift) | ((left & resumes) << shift)
            shift += plan.width
    return plan.table_of(inner)
