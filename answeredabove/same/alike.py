"""Procedures alike: equal leaves and escapes in two programs, from each mode under every table."""

from answeredabove.base.checks import check_name, check_program
from answeredabove.base.programs import Procedure, Program
from answeredabove.base.words import is_below, is_tuple
from answeredabove.errors import InvalidOperation, InvalidProgram, TooMany
from answeredabove.know.does import does
from answeredabove.know.crowds import told_under_all
from answeredabove.know.plans import plan_of
from answeredabove.know.tables import check_context, entry, is_table

MOST_ALIKE = 4096
OUTER = "outer"
ANSWERING = ("answa", "answb", "answc")


def surrounding(program, name, mode, table):
    """The program around a procedure, the outcome of which is what the procedure does from the mode under the table."""
    check_context(program, name, mode, table)
    modes = tuple(range(program.modes))
    by = list(zip(program.signals, ANSWERING))
    call = ("call", 0, 1, name, (mode,), tuple([(signal, called, ()) for signal, called in by]))
    made = [Procedure(OUTER, 2, call, ("leave", 1, modes))]
    made.extend([_answering(program, table, signal, called) for signal, called in by])
    try:
        return Program.of(program.modes, (mode,), program.signals, tuple(made) + program.procedures)
    except InvalidProgram:
        raise InvalidOperation("the surrounding would be no program") from None


def are_alike(one, other, name):
    """Whether the procedure has equal leaves and escapes in both programs, from each mode under every table."""
    return parting(one, other, name) is None


def parting(one, other, name):
    """A pair of a mode and a table with which the procedure's leaves or escapes differ, or None."""
    _check_both(one, other, name)
    plan = plan_of(one)
    if plan.everything >= MOST_ALIKE:
        raise TooMany(MOST_ALIKE)
    told = told_under_all(plan, name)
    others_told = told_under_all(plan_of(other), name)
    for (mode, mask), masks in told.items():
        if masks != others_told[(mode, mask)]:
            return mode, plan.table_of(mask)
    return None


def is_parting(one, other, name, value):
    """Whether the value is a pair of a mode and a table with which the procedure's leaves or escapes differ."""
    _check_both(one, other, name)
    if not is_tuple(value, 2) or not is_below(value[0], one.modes) or not is_table(one, value[1]):
        return False
    return does(one, name, value[0], value[1]) != does(other, name, value[0], value[1])


def _check_both(one, other, name):
    check_program(one)
    check_program(other)
    check_name(one, name)
    check_name(other, name)
    if one.modes != other.modes or one.signals != other.signals:
        raise InvalidOperation("the programs have other modes or signals")


def _answering(program, table, signal, called):
    """The procedure of a surrounding that resumes the signal just as the table tells, and lets it escape."""
    modes = tuple(range(program.modes))
    moves = [("raise", 0, 0, signal, modes)]
    pairs = tuple([(old, new) for old in modes for new in entry(program, table, signal, old)])
    if len(pairs) > 0:
        moves.append(("go", 0, 1, pairs))
    moves.append(("leave", 1, modes))
    return Procedure.of(called, 2, tuple(moves))
