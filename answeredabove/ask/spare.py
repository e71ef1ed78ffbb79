"""Answers that are left out, while the outcome stays the same or nothing stays unanswered."""

from answeredabove.ask.outcomes import has_few_tables, has_many_cells, outcomes_of
from answeredabove.base.checks import check_program
from answeredabove.base.programs import check_answers
from answeredabove.errors import InvalidOperation, TooMany
from answeredabove.know.begins import answers_begun
from answeredabove.know.masks import bits_of

MAX_CHOSEN = 6
AIMS = ("answered", "same")


def is_spare(program, answers):
    """Whether the outcome without these answers is the same."""
    check_program(program)
    check_answers(program, answers)
    if has_few_tables(program):
        if len(_that_begin(program, answers)) == 0:
            return True
        if len(answers) == 1 and not has_many_cells(program, 2):
            # It is hardly more to find it for each answer, and others may be asked for, too.
            return answers[0] in _spare_alone(program)
    # In the world 0 all answers are there, in the world 1 all but these.
    return outcomes_of(program, 2, {answer: 1 for answer in answers}).same_as(0) == 3


def spare_answers(program):
    """The answers each of which alone can be left out, and the outcome stays the same, in their order."""
    check_program(program)
    return _spare_alone(program)


def least_sets(program, chosen, *, aim="answered"):
    """The least sets of answers to be kept, among those that are chosen, ascending."""
    check_program(program)
    check_answers(program, chosen)
    if aim not in AIMS:
        raise InvalidOperation("this is no aim")
    ordered = [answer for answer in program.answers if answer in chosen]
    if len(ordered) > MAX_CHOSEN:
        raise TooMany(MAX_CHOSEN)
    if len(_that_begin(program, ordered)) == 0:
        # It is the same whichever of them are kept.
        ordered = []
    # The number of a world is the mask of the answers that are kept in it.
    many = 1 << len(ordered)
    within = [_sets_with(at, many) for at in range(len(ordered))]
    outcomes = outcomes_of(program, many, dict(zip(ordered, within)))
    enough = outcomes.all_answered() if aim == "answered" else outcomes.same_as(many - 1)
    found = [tuple([ordered[at] for at in bits_of(kept)]) for kept in _least(enough, within)]
    return tuple(sorted(found))


def _spare_alone(program):
    begun = _that_begin(program, program.answers)
    # In the world 0 all answers are there, in each of the others all but one that begins.
    every = (2 << len(begun)) - 1
    within = {answer: every ^ (2 << at) for at, answer in enumerate(begun)}
    same = outcomes_of(program, len(begun) + 1, within).same_as(0)
    needed = {answer: True for at, answer in enumerate(begun) if (same >> (at + 1)) & 1 == 0}
    return tuple([answer for answer in program.answers if answer not in needed])


def _that_begin(program, answers):
    """Those of some answers that begin in the program's own runs. If not one of these is left out, the outcome is the
    same. It is all of them if that is not known, or if there could be too many tables without some of the answers."""
    begun = answers_begun(program) if has_few_tables(program) else None
    return list(answers) if begun is None else [answer for answer in answers if answer in begun]


def _sets_with(at, many):
    """The mask of those of the first so many sets that have this bit; each set is a mask, too."""
    every = (1 << many) - 1
    # Blocks of sets without the bit take turns with blocks of sets with it.
    return every ^ (every // ((1 << (1 << at)) + 1))


def _least(sets, within):
    """The least ones of the sets of a mask; `within` has for each bit the mask of the sets that have it."""
    found = []
    while sets > 0:
        # What is within a set has a lesser number.
        least = (sets & -sets).bit_length() - 1
        found.append(least)
        more = sets
        for at in bits_of(least):
            more &= within[at]
        sets &= ~more
    return found
