"""Bounds: how many tables could be met, whatever answers are left out."""

from answeredabove.know.masks import bits_of
from answeredabove.know.walks import NEAR, walked


def most_tables(plan):
    """A number of tables of which the program's own runs meet surely no more. For each signal the entries are those
    under the empty table, or those that come of one of its answers."""
    raising = _raising(plan)
    rows = {}
    for sheet in [each for each in plan.sheets if each is not None]:
        for call in sheet.calls_made.values():
            for by, first, _, resumes, _ in call.replies:
                if first not in rows:
                    rows[first] = {}
                if (by, resumes) not in rows[first]:
                    rows[first][(by, resumes)] = _most_rows(plan, raising, by, resumes)
    found = 1
    for many in rows.values():
        found = found * (1 + sum(list(many.values())))
    return found


def _raising(plan):
    """The bits of the places of the procedures that come to raises, of their own or of others."""
    found = 0
    for place, sheet in enumerate(plan.sheets):
        if sheet is not None and any([len(raised) > 0 for raised, _ in sheet.acts.values()]):
            found |= 1 << place
    before = 0
    while before != found:
        before = found
        for place, sheet in enumerate(plan.sheets):
            if sheet is not None and sheet.needs & found > 0:
                found |= 1 << place
    return found


def _most_rows(plan, raising, by, resumes):
    """How many rows of entries could come of an answer, by its first spot and the modes in which it resumes."""
    place = by // plan.width
    if (raising >> place) & 1 == 0:
        # What it does hangs on no table.
        return 1
    many = 0
    for spot in range(by, by + plan.width):
        many += len(bits_of(_doubtful(plan, spot) & resumes))
    return 1 << many


def _doubtful(plan, spot):
    """The modes that are left under some tables, and not under others."""
    if plan.has_calls(spot):
        return plan.first[spot][0].left_from(-1)
    return plan.tops[(spot, plan.everything)][0] & ~walked(plan, {}, NEAR, spot, 0)[0]
