"""Books: what is told of contexts, so that all that follows from it is told, too."""

from answeredabove.base.checks import check_program
from answeredabove.base.words import is_ascending, is_mode_set, is_tuple
from answeredabove.know.masks import escapes_mask, escapes_of, mask_of, modes_of
from answeredabove.know.meetings import Meeting
from answeredabove.know.plans import Plan
from answeredabove.know.solvers import Solver
from answeredabove.know.tables import check_context, empty_table, is_context, is_escape
from answeredabove.know.walks import Walk


def contexts_met(program, name, mode, table):
    """The contexts that a context meets, ascending."""
    check_context(program, name, mode, table)
    solver = Solver(program)
    meeting = Meeting(solver, [solver.plan.packed(name, mode, table)])
    return tuple(sorted([solver.plan.unpacked(context) for context in meeting.walks]))


def book_of(program):
    """The book with what is true of the contexts that the program's own runs meet."""
    check_program(program)
    solver = Solver(program)
    return book_known(solver, own_meeting(solver))


def is_book(program, value):
    """Whether the value is a book of the program."""
    check_program(program)
    if not isinstance(value, dict):
        return False
    for context, pair in value.items():
        if not is_context(program, context) or not _is_pair(program, pair):
            return False
    plan = Plan(program)
    told = told_by(plan, value)
    return all([_is_closed(plan, told, context) for context in told])


def told_by(plan, book):
    """What a book tells, by masks."""
    told = {}
    for (name, mode, table), (leaves, escapes) in book.items():
        told[plan.packed(name, mode, table)] = (mask_of(leaves), escapes_mask(plan.source, escapes))
    return told


def own_contexts(program):
    """The contexts of the main procedure, each start, and the empty table."""
    return [(program.main, start, empty_table(program)) for start in program.starts]


def own_meeting(solver):
    """The contexts that the program's own runs meet."""
    return Meeting(solver, [solver.plan.packed(*context) for context in own_contexts(solver.plan.source)])


def book_known(solver, meeting):
    """The book with what is true of the contexts of a meeting."""
    book = {}
    for context, walk in meeting.walks.items():
        pair = (modes_of(walk.left), escapes_of(solver.plan.source, walk.escaped))
        book[solver.plan.unpacked(context)] = pair
    return {context: book[context] for context in sorted(book)}


def _is_pair(program, value):
    if not is_tuple(value, 2) or not isinstance(value[1], tuple):
        return False
    if value[0] != () and not is_mode_set(value[0], program.modes):
        return False
    return all([is_escape(program, each) for each in value[1]]) and is_ascending(value[1])


def _is_closed(plan, told, context):
    """Whether all that is met in one step is told of, and all that follows for the context is told."""
    walk = Walk(plan, told, told, None, context)
    if not all([need in told for need in walk.needs]):
        return False
    left, escaped = told[context]
    return walk.left & ~left == 0 and walk.escaped & ~escaped == 0
