"""Begins: the answers that begin in the program's own runs."""

from answeredabove.base.programs import notes_of
from answeredabove.know.meetings import cells_at, own_roots
from answeredabove.know.plans import plan_of


def answers_begun(program):
    """The answers that begin in the program's own runs, as a dict of True, or None if not all is known on which that
    rests."""
    cells = cells_at(program, own_roots(program))
    notes = notes_of(program)
    if notes.beginning is None and notes.solver is not None and notes.solver.is_done():
        notes.beginning = _begun_in(plan_of(program), cells)
    return notes.beginning


def _begun_in(plan, cells):
    """The answers that begin in runs of cells of which all is known."""
    found = {}
    seen = {cell.number: True for cell in cells}
    waiting = list(cells)
    while len(waiting) > 0:
        cell = waiting.pop()
        for link in list(cell.links.values()):
            for need in _entered(plan, link, found):
                if need.number not in seen:
                    seen[need.number] = True
                    waiting.append(need)
    return found


def _entered(plan, link, found):
    """The cells that are entered by a call and by its answers; those that begin are added to what is found."""
    needs = list(link.goals.values())
    escaped = 0
    for goal in needs:
        escaped |= goal.escaped
    if escaped & ~link.call.passed == 0:
        return needs
    answering = []
    for asked, (_, bit, _, _, _) in zip(link.asked, link.call.asks):
        if escaped & bit > 0:
            answering.append(asked)
            found[link.call.site + (plan.words[(bit.bit_length() - 1) // plan.width],)] = True
    return needs + answering
