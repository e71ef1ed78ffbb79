"""Books: what is told of contexts, so that all that follows from it is told, too."""

from answeredabove.base.checks import check_program
from answeredabove.base.words import is_below, is_tuple
from answeredabove.know.masks import MODE_SETS
from answeredabove.know.meetings import meeting_at, own_roots
from answeredabove.know.plans import plan_of
from answeredabove.know.tables import check_context, empty_table, mask_of_context, mask_of_modes
from answeredabove.know.walks import NEAR, walked


def contexts_met(program, name, mode, table):
    """The contexts that a context meets, ascending."""
    mask = check_context(program, name, mode, table)
    meeting = meeting_at(program, [(plan_of(program).spot_of(name, mode), mask)])
    return tuple([context for context, _, _ in meeting.ordered()])


def book_of(program):
    """The book with what is true of the contexts that the program's own runs meet."""
    check_program(program)
    return book_known(plan_of(program), meeting_at(program, own_roots(program)))


def is_book(program, value):
    """Whether the value is a book of the program."""
    check_program(program)
    told = told_by(program, value)
    if told is None:
        return False
    plan = plan_of(program)
    for spot, mask in told:
        if not _is_closed(plan, told, spot, mask):
            return False
    return True


def told_by(program, value):
    """What the value tells of contexts, all by masks, as a dict from pairs (spot, mask of the table) to masks of leaves
    and escapes; or None if it has not the form of a book."""
    if not isinstance(value, dict):
        return None
    plan = plan_of(program)
    told = {}
    for context, pair in value.items():
        mask = mask_of_context(program, context)
        masks = _masks_of_pair(plan, pair)
        if mask is None or masks is None:
            return None
        told[(plan.spot_of(context[0], context[1]), mask)] = masks
    return told


def own_contexts(program):
    """The contexts of the main procedure, each start, and the empty table, as they are told outside."""
    return [(program.main, start, empty_table(program)) for start in program.starts]


def book_known(plan, meeting):
    """The book with what is true of the contexts of a meeting."""
    book = {}
    for context, spot, mask in meeting.ordered():
        cell = meeting.cell(spot, mask)
        book[context] = (MODE_SETS[cell.left], plan.escapes_of(cell.escaped))
    return book


def _masks_of_pair(plan, value):
    """The masks of a pair of leaves and escapes, or None if the value is none."""
    if not is_tuple(value, 2) or not isinstance(value[1], tuple):
        return None
    left = mask_of_modes(value[0], plan.width)
    if left is None:
        return None
    escaped = 0
    for each in value[1]:
        if not is_tuple(each, 2) or each[0] not in plan.words or not is_below(each[1], plan.width):
            return None
        bit = 1 << plan.place_of(each[0], each[1])
        # Ascending: what is behind is greater than all that is ahead.
        if bit <= escaped:
            return None
        escaped |= bit
    return left, escaped


def _is_closed(plan, told, spot, mask):
    """Whether all that is met in one step is told of, and all that follows for the context is told."""
    follows = walked(plan, told, NEAR, spot, mask)
    if follows is None or not all([(call.base + mode, inner) in told for call, mode, inner in follows[2]]):
        return False
    left, escaped = told[(spot, mask)]
    return follows[0] & ~left == 0 and follows[1] & ~escaped == 0
