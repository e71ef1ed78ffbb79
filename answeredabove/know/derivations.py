"""Facts and their derivations, and the runs that go along derivations."""

from answeredabove.base.checks import check_program
from answeredabove.base.words import is_tuple
from answeredabove.errors import InvalidDerivation, InvalidFact
from answeredabove.know.follows import Follower, Lines
from answeredabove.know.meetings import cells_apart
from answeredabove.know.plans import plan_of
from answeredabove.know.steps import has_fact_form, is_last_step, is_middle_step, led_to, main_facts, shown_facts
from answeredabove.know.tables import mask_of_table
from answeredabove.know.traces import derivation_from
from answeredabove.run.runs import Run


def is_fact(program, value):
    """Whether the value is a fact by its form, true or not."""
    check_program(program)
    return has_fact_form(program, value)


def is_derivation(program, value):
    """Whether the value is a derivation: each line follows from the lines ahead of it."""
    check_program(program)
    if not isinstance(value, tuple) or len(value) == 0:
        return False
    ahead = {}
    for line in value:
        if not is_tuple(line, 2) or not has_fact_form(program, line[0]) or not _is_path(program, line, ahead):
            return False
        ahead[line[0]] = True
    return True


def derivation_of(program, fact):
    """A derivation of a fact, or None if it is not true."""
    check_program(program)
    if not has_fact_form(program, fact):
        raise InvalidFact("this is no fact of the program")
    plan = plan_of(program)
    roots = [(plan.spot_of(fact[1], fact[2]), mask_of_table(program, fact[3]))]
    solver, (cell,) = cells_apart(program, roots)
    if fact[0] == "leaves":
        true = (cell.left >> fact[4]) & 1 == 1
    else:
        true = (cell.escaped >> plan.place_of(fact[4], fact[5])) & 1 == 1
    return derivation_known(solver, program, fact) if true else None


def derivation_known(solver, program, fact):
    """A derivation of a fact that is true, as the solver finds it."""
    spot = solver.plan.spot_of(fact[1], fact[2])
    mask = mask_of_table(program, fact[3])
    cell = solver.cell(spot, mask)
    solver.settle(cell)
    return derivation_from(solver, cell, (fact[0],) + fact[4:], mask)


def run_of(program, derivation):
    """The run that goes along the path of the last line of a derivation."""
    if not is_derivation(program, derivation):
        raise InvalidDerivation("this is no derivation of the program")
    fact = derivation[-1][0]
    follower = Follower(program, fact[3], (fact[2], (), (fact[1], 0)), Lines(derivation))
    return Run.of(program, fact[1], fact[2], fact[3], follower.taken(derivation[-1:]))


def _is_path(program, line, ahead):
    """Whether the path of a line derives its fact from the facts of the lines ahead."""
    fact, path = line
    if not isinstance(path, tuple) or len(path) == 0:
        return False
    at = (0, fact[2])
    for step in path[:-1]:
        if not is_middle_step(program, fact, at, step) or not _are_ahead(program, fact, at, step, ahead):
            return False
        at = led_to(program, fact, step)
    return is_last_step(program, fact, at, path[-1]) and _are_ahead(program, fact, at, path[-1], ahead)


def _are_ahead(program, fact, at, step, ahead):
    needed = main_facts(program, fact, at[1], step) + shown_facts(program, fact, step)
    return all([need in ahead for need in needed])
