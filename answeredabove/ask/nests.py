"""Answers inside of answers: how many raises can be open at once in the program's own runs."""

from answeredabove.base.checks import check_program
from answeredabove.base.words import is_between, is_count, is_tuple
from answeredabove.errors import InvalidNumber
from answeredabove.know.books import book_known, is_book, own_contexts, told_by
from answeredabove.know.counts import MOST, Counting, contexts_in, rules_within
from answeredabove.know.dives import Dive
from answeredabove.know.guides import Guide
from answeredabove.know.masks import bits_of
from answeredabove.know.meetings import own_roots
from answeredabove.know.plans import plan_of
from answeredabove.know.tables import empty_table, is_escape, mask_of_context
from answeredabove.know.walks import NEAR, walked
from answeredabove.run.runs import Run

MAX_DEPTH = 40


def deepest(program):
    """The greatest number of raises that are open at once in the program's own runs, or "endless"."""
    check_program(program)
    guide = Guide(program)
    most = _greatest(program, _counting(guide, program))
    return "endless" if most is None else most


def deep_run(program, many):
    """One of the program's own runs whose last situation has at least so many open raises, or None."""
    _check_number(program, many)
    guide = Guide(program)
    return _run(guide, program, _counting(guide, program), many)


def depth_paper(program, many):
    """A run whose last situation has at least so many open raises, or counts that tell why there is none."""
    _check_number(program, many)
    guide = Guide(program)
    counting = _counting(guide, program)
    run = _run(guide, program, counting, many)
    if run is not None:
        return "run", run
    return "counts", book_known(guide.plan, guide.meeting), _numbers(guide, counting)


def is_depth_paper(program, many, value):
    """Whether the value is a depth paper of the program and the number."""
    _check_number(program, many)
    if is_tuple(value, 2):
        return value[0] == "run" and _is_deep(program, many, value[1])
    if not is_tuple(value, 3) or value[0] != "counts" or not is_book(program, value[1]):
        return False
    if not _are_counts(program, value[1], value[2]):
        return False
    return all([root in value[2] and value[2][root][0] < many for root in own_contexts(program)])


def _check_number(program, many):
    check_program(program)
    if not is_between(many, 0, MAX_DEPTH):
        raise InvalidNumber(many)


def _counting(guide, program):
    return Counting(guide.meeting, program.modes, own_roots(program))


def _greatest(program, counting):
    """The greatest number of the main procedure's contexts, or None."""
    numbers = [counting.numbers[(root, MOST)] for root in own_roots(program)]
    return None if None in numbers else max(numbers)


def _run(guide, program, counting, many):
    most = _greatest(program, counting)
    if most is not None and most < many:
        return None
    dive = Dive(program, guide, counting)
    root = dive.dive(own_roots(program), many)
    return guide.run_along(guide.plan.mode_at(root[0]), dive.parts(root, many))


def _numbers(guide, counting):
    """The numbers of all contexts that are needed, as a count book has them."""
    found = {}
    for context in counting.contexts:
        counts = {}
        for at in bits_of(guide.meeting.cell(context[0], context[1]).escaped):
            counts[guide.plan.escapes_of(1 << at)[0]] = counting.numbers[(context, at)]
        found[guide.plan.unpacked(context[0], context[1])] = (counting.numbers[(context, MOST)], counts)
    return {context: found[context] for context in sorted(found)}


def _is_deep(program, many, value):
    """Whether the value is one of the program's own runs, with at least so many open raises at its end."""
    if not isinstance(value, Run) or value.program != program:
        return False
    if value.called != program.main or value.table != empty_table(program):
        return False
    if value.situations[0][0] not in program.starts:
        return False
    return len([entry for entry in value.situation[1] if len(entry) == 3]) >= many


def _are_counts(program, book, value):
    """Whether the value is a dict of numbers that makes a count book of the book."""
    if not isinstance(value, dict):
        return False
    plan = plan_of(program)
    contexts = []
    numbers = {}
    for context, pair in value.items():
        mask = mask_of_context(program, context)
        if mask is None or context not in book or not _is_pair(program, book[context][1], pair):
            return False
        contexts.append((plan.spot_of(context[0], context[1]), mask))
        numbers[(contexts[-1], MOST)] = pair[0]
        for signal, mode in pair[1]:
            numbers[(contexts[-1], plan.place_of(signal, mode))] = pair[1][(signal, mode)]
    told = told_by(program, book)
    return all([_is_counted(plan, told, numbers, context) for context in contexts])


def _is_pair(program, escapes, value):
    """Whether the value is a pair of a number and a dict from just these escapes to numbers."""
    if not is_tuple(value, 2) or not is_count(value[0]) or not isinstance(value[1], dict):
        return False
    for escape, number in value[1].items():
        if not is_escape(program, escape) or escape not in escapes or not is_count(number):
            return False
    return len(value[1]) == len(escapes)


def _is_counted(plan, told, numbers, context):
    """Whether all contexts that a context needs have numbers, and the rules for this context hold."""
    _, _, made = walked(plan, told, NEAR, context[0], context[1])
    rules = rules_within(plan.width, told, context, made)
    if not all([(each, MOST) in numbers for each in contexts_in(rules)]):
        return False
    for head, first, second, _ in rules:
        least = numbers[first]
        if second is not None:
            least = least + 1 + numbers[second]
        if numbers[head] < least:
            return False
    return True
