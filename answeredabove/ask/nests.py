"""Answers inside of answers: how many raises can be open at once in the program's own runs."""

from answeredabove.base.checks import check_program
from answeredabove.base.words import is_between, is_count, is_tuple
from answeredabove.errors import InvalidNumber
from answeredabove.know.books import book_known, is_book, own_contexts, told_by
from answeredabove.know.counts import MOST, Counting, bits_of, contexts_in, rules_within
from answeredabove.know.dives import Dive
from answeredabove.know.guides import Guide
from answeredabove.know.masks import escapes_of
from answeredabove.know.plans import Plan
from answeredabove.know.tables import empty_table, is_context, is_escape, place_of
from answeredabove.know.walks import Walk
from answeredabove.run.runs import Run

MAX_DEPTH = 40


def deepest(program):
    """The greatest number of raises that are open at once in the program's own runs, or "endless"."""
    check_program(program)
    guide = Guide(program)
    most = _greatest(guide, program, _counting(guide, program))
    return "endless" if most is None else most


def deep_run(program, many):
    """One of the program's own runs whose last situation has at least so many open raises, or None."""
    _check_number(program, many)
    guide = Guide(program)
    return _run(guide, program, _counting(guide, program), many)


def depth_paper(program, many):
    """A run whose last situation has at least so many open raises, or counts that tell why there is none."""
    _check_number(program, many)
    guide = Guide(program)
    counting = _counting(guide, program)
    run = _run(guide, program, counting, many)
    if run is not None:
        return "run", run
    return "counts", book_known(guide.solver, guide.meeting), _numbers(guide, program, counting)


def is_depth_paper(program, many, value):
    """Whether the value is a depth paper of the program and the number."""
    _check_number(program, many)
    if is_tuple(value, 2):
        return value[0] == "run" and _is_deep(program, many, value[1])
    if not is_tuple(value, 3) or value[0] != "counts" or not is_book(program, value[1]):
        return False
    if not _are_counts(program, value[1], value[2]):
        return False
    return all([root in value[2] and value[2][root][0] < many for root in own_contexts(program)])


def _check_number(program, many):
    check_program(program)
    if not is_between(many, 0, MAX_DEPTH):
        raise InvalidNumber(many)


def _roots(guide, program):
    return [guide.solver.plan.packed(*context) for context in own_contexts(program)]


def _counting(guide, program):
    return Counting(guide.meeting, program.modes, _roots(guide, program))


def _greatest(guide, program, counting):
    """The greatest number of the main procedure's contexts, or None."""
    numbers = [counting.numbers[(root, MOST)] for root in _roots(guide, program)]
    return None if None in numbers else max(numbers)


def _run(guide, program, counting, many):
    most = _greatest(guide, program, counting)
    if most is not None and most < many:
        return None
    dive = Dive(program, guide, counting)
    root = dive.dive(_roots(guide, program), many)
    return guide.run_along(root[1], dive.parts(root, many))


def _numbers(guide, program, counting):
    """The numbers of all contexts that are needed, as a count book has them."""
    found = {}
    for context in counting.contexts:
        counts = {}
        for at in bits_of(guide.meeting.walks[context].escaped):
            counts[escapes_of(program, 1 << at)[0]] = counting.numbers[(context, at)]
        found[guide.solver.plan.unpacked(context)] = (counting.numbers[(context, MOST)], counts)
    return {context: found[context] for context in sorted(found)}


def _is_deep(program, many, value):
    """Whether the value is one of the program's own runs, with at least so many open raises at its end."""
    if not isinstance(value, Run) or value.program != program:
        return False
    if value.called != program.main or value.table != empty_table(program):
        return False
    if value.situations[0][0] not in program.starts:
        return False
    return len([entry for entry in value.situation[1] if len(entry) == 3]) >= many


def _are_counts(program, book, value):
    """Whether the value is a dict of numbers that makes a count book of the book."""
    if not isinstance(value, dict):
        return False
    for context, pair in value.items():
        if not is_context(program, context) or context not in book or not _is_pair(program, book[context][1], pair):
            return False
    plan = Plan(program)
    told = told_by(plan, book)
    numbers = {}
    for context, (most, counts) in value.items():
        packed = plan.packed(*context)
        numbers[(packed, MOST)] = most
        for signal, mode in counts:
            numbers[(packed, place_of(program, signal, mode))] = counts[(signal, mode)]
    return all([_is_counted(plan, told, numbers, plan.packed(*context)) for context in value])


def _is_pair(program, escapes, value):
    """Whether the value is a pair of a number and a dict from just these escapes to numbers."""
    if not is_tuple(value, 2) or not is_count(value[0]) or not isinstance(value[1], dict):
        return False
    for escape, number in value[1].items():
        if not is_escape(program, escape) or escape not in escapes or not is_count(number):
            return False
    return len(value[1]) == len(escapes)


def _is_counted(plan, told, numbers, context):
    """Whether all contexts that a context needs have numbers, and the rules for this context hold."""
    rules = rules_within(plan.width, told, context, Walk(plan, told, told, None, context).made)
    if not all([(each, MOST) in numbers for each in contexts_in(rules)]):
        return False
    for head, first, second, _ in rules:
        least = numbers[first]
        if second is not None:
            least = least + 1 + numbers[second]
        if numbers[head] < least:
            return False
    return True
