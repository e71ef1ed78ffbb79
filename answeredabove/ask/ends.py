"""Ends: how the program's own runs can end, each with a derivation or a book."""

from answeredabove.base.checks import check_program
from answeredabove.base.words import is_below, is_tuple
from answeredabove.errors import InvalidOperation
from answeredabove.know.books import book_of, is_book, own_contexts
from answeredabove.know.derivations import derivation_known, is_derivation
from answeredabove.know.masks import MODE_SETS
from answeredabove.know.meetings import cells_apart, cells_at, own_roots
from answeredabove.know.plans import plan_of


def is_end(program, value):
    """Whether the value is an end by its form."""
    check_program(program)
    if is_tuple(value, 2):
        return value[0] == "left" and is_below(value[1], program.modes)
    if not is_tuple(value, 3) or value[0] != "unanswered":
        return False
    return value[1] in program.signals and is_below(value[2], program.modes)


def outcome(program):
    """The modes in which the program's own runs can be left, and the pairs of a signal that can stay unanswered, and
    its mode."""
    check_program(program)
    left = 0
    escaped = 0
    for cell in cells_at(program, own_roots(program)):
        left |= cell.left
        escaped |= cell.escaped
    return MODE_SETS[left], plan_of(program).escapes_of(escaped)


def can_end(program, end):
    """Whether the program can end so."""
    _check_end(program, end)
    left, escaped = outcome(program)
    return _is_told(end, left, escaped)


def end_paper(program, end):
    """A derivation of the end, or a book in which it does not come."""
    _check_end(program, end)
    plan = plan_of(program)
    solver, cells = cells_apart(program, own_roots(program))
    for cell, fact in zip(cells, _facts_of(program, end)):
        if _is_told(end, MODE_SETS[cell.left], plan.escapes_of(cell.escaped)):
            return "derivation", derivation_known(solver, program, fact)
    return "book", book_of(program)


def is_end_paper(program, end, value):
    """Whether the value is an end paper of the program and the end."""
    _check_end(program, end)
    if not is_tuple(value, 2):
        return False
    if value[0] == "derivation":
        return is_derivation(program, value[1]) and value[1][-1][0] in _facts_of(program, end)
    return value[0] == "book" and is_book(program, value[1]) and _is_without(program, end, value[1])


def _check_end(program, end):
    if not is_end(program, end):
        raise InvalidOperation("this is no end of the program")


def _facts_of(program, end):
    """The facts, one for each start, that say that the program can end so."""
    if end[0] == "left":
        return [("leaves", *context, end[1]) for context in own_contexts(program)]
    return [("escapes", *context, end[1], end[2]) for context in own_contexts(program)]


def _is_without(program, end, book):
    """Whether a book has the main procedure's contexts and does not tell the end for any of them."""
    for context in own_contexts(program):
        if context not in book or _is_told(end, book[context][0], book[context][1]):
            return False
    return True


def _is_told(end, leaves, escapes):
    """Whether an end is among these modes that are left, or these pairs of a signal that escapes and its mode."""
    if end[0] == "left":
        return end[1] in leaves
    return end[1:] in escapes
