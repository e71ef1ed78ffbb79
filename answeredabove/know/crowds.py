"""Crowds: what a procedure does under every table, from each mode."""

from answeredabove.errors import TooMany
from answeredabove.know.components import components
from answeredabove.know.masks import bits_of
from answeredabove.know.meetings import MOST_TABLES, Meeting
from answeredabove.know.solvers import Solver


def told_under_all(plan, name):
    """The masks of the leaves and of the escapes of a procedure by pairs (mode, mask of the table); each of these
    contexts may meet only so many tables."""
    solver = Solver(plan)
    keys = [(mode, mask) for mask in range(plan.everything + 1) for mode in range(plan.width)]
    roots = [(plan.spot_of(name, mode), mask) for mode, mask in keys]
    for root in roots[:plan.width]:
        # Under the empty table many are met, if anywhere; so it is soon known that there are too many.
        Meeting(solver, [root], MOST_TABLES)
    meeting = Meeting(solver, roots, plan.everything + 1)
    if len(meeting.tables) > MOST_TABLES:
        _check_each(plan, meeting)
    found = {}
    for key, (spot, mask) in zip(keys, roots):
        cell = meeting.cell(spot, mask)
        found[key] = (cell.left, cell.escaped)
    return found


def _check_each(plan, meeting):
    """Refuses too many tables of one of the contexts of a meeting, where all of them together are too many."""
    needs = {context: [] for context in meeting.callers}
    tables = {}
    for spot, mask in meeting.callers:
        tables[(spot, mask)] = 1 << mask
        for call, mode, inner in meeting.calls_in(spot, mask):
            tables[(spot, mask)] |= 1 << inner
            others = [(call.base + mode, inner)] + [(by, mask) for by in bits_of(call.spots)]
            needs[(spot, mask)].extend([other for other in others if plan.has_calls(other[0])])
    for parts in components(needs):
        together = 0
        for part in parts:
            together |= tables[part]
            for need in needs[part]:
                together |= tables[need]
        if f"{together:b}".count("1") > MOST_TABLES:
            raise TooMany(MOST_TABLES)
        for part in parts:
            tables[part] = together
