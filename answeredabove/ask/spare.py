"""Answers that are left out, while the outcome stays the same or nothing stays unanswered."""

from answeredabove.ask.ends import outcome
from answeredabove.base.checks import check_program
from answeredabove.errors import InvalidOperation, TooMany

MAX_CHOSEN = 6
AIMS = ("answered", "same")


def is_spare(program, answers):
    """Whether the outcome without these answers is the same."""
    check_program(program)
    fewer = program.without_answers(answers)
    return outcome(program) == outcome(fewer)


def spare_answers(program):
    """The answers each of which alone can be left out, and the outcome stays the same, in their order."""
    ends = outcome(program)
    return tuple([answer for answer in program.answers if outcome(program.without_answers((answer,))) == ends])


def least_sets(program, chosen, *, aim="answered"):
    """The least sets of answers to be kept, among those that are chosen, ascending."""
    check_program(program)
    program.without_answers(chosen)
    if aim not in AIMS:
        raise InvalidOperation("this is no aim")
    ordered = [answer for answer in program.answers if answer in chosen]
    if len(ordered) > MAX_CHOSEN:
        raise TooMany(MAX_CHOSEN)
    ends = outcome(program)
    fitting = [kept for kept in _parts(ordered) if _is_enough(program, ordered, kept, aim, ends)]
    return tuple(sorted([kept for kept in fitting if not any([_is_less(other, kept) for other in fitting])]))


def _parts(ordered):
    """All sets of answers as tuples in their order."""
    found = [()]
    for answer in ordered:
        found = found + [part + (answer,) for part in found]
    return found


def _is_enough(program, ordered, kept, aim, ends):
    fewer = outcome(program.without_answers(tuple([answer for answer in ordered if answer not in kept])))
    return fewer[1] == () if aim == "answered" else fewer == ends


def _is_less(one, other):
    return len(one) < len(other) and all([answer in other for answer in one])
