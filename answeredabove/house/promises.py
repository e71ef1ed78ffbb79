"""Promises: what stays true of a program that changes."""

from answeredabove.ask.ends import outcome
from answeredabove.ask.nests import MAX_DEPTH, deepest
from answeredabove.ask.watch import Answers
from answeredabove.base.programs import MOST_MODES, MOST_MOVES, Program, is_answer
from answeredabove.base.words import is_below, is_between, is_mode_set, is_name, is_tuple
from answeredabove.same.alike import are_alike


def is_promise(value):
    """Whether the value is a promise by its form."""
    if not isinstance(value, tuple) or len(value) == 0 or not isinstance(value[0], str):
        return False
    if len(value) == 1:
        return value[0] == "answered"
    if len(value) == 3:
        return value[0] == "alike" and isinstance(value[1], Program) and is_name(value[2])
    if len(value) > 3:
        return False
    if value[0] == "ends":
        return value[1] == () or is_mode_set(value[1], MOST_MODES)
    if value[0] == "never":
        return _is_any_end(value[1])
    if value[0] == "depth":
        return is_between(value[1], 0, MAX_DEPTH)
    return value[0] == "begins" and _is_any_answer(value[1])


def is_kept(program, promise):
    """Whether a promise is true of a program."""
    if promise[0] == "alike":
        return _fits(program, promise[1], promise[2]) and are_alike(program, promise[1], promise[2])
    if promise[0] == "begins":
        return is_answer(program, promise[1]) and promise[1] in Answers(program)
    if promise[0] == "depth":
        most = deepest(program)
        return most != "endless" and most <= promise[1]
    left, unanswered = outcome(program)
    if promise[0] == "answered":
        return unanswered == ()
    if promise[0] == "ends":
        return left == promise[1]
    end = promise[1]
    return end[1] not in left if end[0] == "left" else end[1:] not in unanswered


def _is_any_end(value):
    """Whether the value is an end of some program with four modes."""
    if is_tuple(value, 2):
        return value[0] == "left" and is_below(value[1], MOST_MODES)
    if not is_tuple(value, 3) or value[0] != "unanswered":
        return False
    return is_name(value[1]) and is_below(value[2], MOST_MODES)


def _is_any_answer(value):
    """Whether the value is an answer of some program."""
    return is_tuple(value, 3) and is_name(value[0]) and is_below(value[1], MOST_MOVES) and is_name(value[2])


def _fits(program, other, name):
    """Whether a procedure of this name can be alike in two programs."""
    return name in program and name in other and program.modes == other.modes and program.signals == other.signals
