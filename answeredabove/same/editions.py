"""Editions: two programs that stand for one, and what is new in the second one."""

from answeredabove.ask.ends import outcome
from answeredabove.base.checks import check_name, check_program


def new_ends(one, other):
    """The ends with which the second program can end and the first one cannot, ascending."""
    check_program(one)
    check_program(other)
    left, escaped = outcome(one)
    others_left, others_escaped = outcome(other)
    found = [("left", mode) for mode in others_left if mode not in left]
    return tuple(found + [("unanswered", *escape) for escape in others_escaped if escape not in escaped])


def replaced(program, other, name):
    """The program with the other program's procedure of this name in the place of its own."""
    check_program(program)
    check_program(other)
    check_name(program, name)
    check_name(other, name)
    return program.with_procedure(other[name])


def changes(one, other):
    """The names of the first program's procedures that are other ones in the second one or are not there, and behind
    them those of the procedures that only the second one has."""
    check_program(one)
    check_program(other)
    found = [name for name in one.names if name not in other or one[name] != other[name]]
    return tuple(found + [name for name in other.names if name not in one])
