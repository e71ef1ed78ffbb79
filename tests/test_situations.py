"""Promises [0.11], [0.12], [0.14], [0.15] and stage 4: situations, what is looked up, and options."""

import itertools
import unittest

from answeredabove.base.programs import Procedure, Program
from answeredabove.errors import InvalidOperation, InvalidProgram, InvalidTable, UnknownName
from answeredabove.run.runs import is_situation, looked_up, options
from tests.helpers import BOOLS, FIX, FULL, NEED, NO_PROGRAMS, ODD, PASS, Checks, changed, part, paths
from tests.samples import programs, tables
from tests.test_tables import NO_SIGNALS, NO_TABLES

EMPTY = ((), ())
# Calls within calls: both answer "need", and the answer of the inner one raises it again; "stop" is answered outside.
NEST = Program(
    3, (0,), ("need", "stop"),
    Procedure("main", 3, ("call", 0, 1, "mid", (0, 1, 2), (("need", "fix", ((1, 2),)), ("stop", "low", ((0, 0),)))),
              ("leave", 1, (0, 1, 2))),
    Procedure("mid", 2, ("call", 0, 1, "low", (0, 1, 2), (("need", "fix", ((2, 1),)),)), ("leave", 1, (0, 1, 2))),
    Procedure("low", 2, ("raise", 0, 1, "need", (0, 1)), ("raise", 0, 1, "stop", (0, 2)), ("leave", 1, (0, 1, 2)),
              ("go", 0, 0, ((0, 0), (0, 2), (1, 2)))),
    Procedure("fix", 2, ("raise", 0, 1, "need", (0, 1)), ("raise", 0, 0, "stop", (1,)), ("leave", 0, (0, 1, 2)),
              ("leave", 1, (0, 1, 2))),
)
TABLE = ((0, 2), (), (1,), (), (0, 1, 2), (2,))
MAIN, MID, LOW, FIXES = ("main", 0), ("mid", 0), ("low", 0), ("fix", 0)


def lookup(program, entries, signal):
    """What is looked up, by the words of [0.12]."""
    at = len(entries) - 1
    while at >= 0:
        move = program[entries[at][0]].moves[entries[at][1]]
        if len(entries[at]) == 3:
            at = entries[at][2] - 1
        elif signal in [answer[0] for answer in move[5]]:
            return at
        else:
            at = at - 1
    return None


def stacks(program, name, length):
    """All that can be open by its form, up to this length, around a procedure, each with the one that runs inside."""
    found = [((), name)]
    for entries, inside in found:
        if len(entries) < length:
            for index, move in enumerate(program[inside].moves):
                if move[0] == "call":
                    found.append((entries + ((inside, index),), move[3]))
                level = lookup(program, entries, move[3]) if move[0] == "raise" else None
                if level is not None:
                    call = program[entries[level][0]].moves[entries[level][1]]
                    by = {answer[0]: answer[1] for answer in call[5]}[move[3]]
                    found.append((entries + ((inside, index, level),), by))
    return found


def situations(program, length=3):
    """All situations by their form with at most so many entries."""
    found = [(mode, (), None) for mode in range(program.modes)]
    found.extend((mode, (), signal) for mode in range(program.modes) for signal in program.signals)
    for first in program.names:
        for entries, inside in stacks(program, first, length):
            for mode in range(program.modes):
                found.extend((mode, entries, (inside, point)) for point in range(program[inside].points))
    return list(dict.fromkeys(found))


class TestForm(Checks):
    def test_each_form_is_one(self):
        for program in (NEED, PASS, NEST, *programs(11, 20, procedures=3, moves=4)):
            for value in situations(program):
                self.assertIs(is_situation(program, value), True, value)

    def test_everything_else_is_none(self):
        for program in (NEED, PASS):
            right = set(situations(program, 2))
            sites = [(name, at) for name in program.names for at in range(len(program[name]) + 1)]
            entries = sites + [(*site, level) for site in sites for level in range(-1, 3)]
            spots = [(name, point) for name in program.names for point in range(4)] + [None, *program.signals, "x"]
            for length in range(3):
                for opened in itertools.product(entries, repeat=length):
                    for spot in spots:
                        value = (0, opened, spot)
                        self.assertIs(is_situation(program, value), value in right, value)

    def test_nothing_is_open(self):
        for name in NEED.names:
            self.assertIs(is_situation(NEED, (1, (), (name, 0))), True)
        for value in ((2, (), ("main", 0)), (0, (), ("main", 3)), (0, (), ("gone", 0)), (0, (), ("work", 2)), (0, ())):
            self.assertIs(is_situation(NEED, value), False)

    def test_ended(self):
        for spot in (None, "need"):
            self.assertIs(is_situation(NEED, (1, (), spot)), True)
            self.assertIs(is_situation(NEED, (2, (), spot)), False)
            self.assertIs(is_situation(NEED, (1, (("main", 0),), spot)), False)
        for spot in ("ask", "main", "", (), ("need",), 0, ["need"], (None,)):
            self.assertIs(is_situation(NEED, (1, (), spot)), False)

    def test_no_run_comes_to_it(self):
        # The mode is none in which the call or the raise can be made.
        self.assertIs(is_situation(NEED, (1, (("main", 0),), ("work", 0))), True)
        self.assertIs(is_situation(NEST, (2, (MAIN, MID, LOW + (1,)), ("fix", 1))), True)

    def test_levels(self):
        around = (MAIN, MID)
        for level in (-1, 0, 1, 2, None, True, False, "1"):
            value = (0, around + (LOW + (level,),), ("fix", 0))
            self.assertIs(is_situation(NEST, value), level == 1 and level is not True, value)
        inner = around + (LOW + (1,),)
        for level in (-1, 0, 1, 2, 3, False):
            value = (0, inner + (FIXES + (level,),), ("fix", 0))
            self.assertIs(is_situation(NEST, value), level == 0 and level is not False, value)
        for level in (-1, 0, 1, 2, 3, 4):
            self.assertIs(is_situation(NEST, (0, inner + (FIXES + (0,), FIXES + (level,)), ("fix", 0))), False)

    def test_each_part_of_a_wrong_kind(self):
        right = set(situations(NEST))
        for value in (
            (0, (MAIN, MID, LOW + (1,)), ("fix", 1)), (2, (), ("low", 1)), (1, (), None), (1, (), "stop"),
        ):
            self.assertIs(is_situation(NEST, value), True)
            for path in paths(value):
                here = part(value, path)
                wrong = ODD + BOOLS + [list(here) if isinstance(here, tuple) else [here], (here,), FIX]
                wrong += [here + (None,)] if isinstance(here, tuple) else []
                for odd in wrong:
                    spoilt = changed(value, path, odd)
                    if odd is None or isinstance(odd, (int, str, tuple)) and not self.has_bool(spoilt):
                        try:
                            expected = spoilt in right
                        except TypeError:
                            expected = False
                        self.assertIs(is_situation(NEST, spoilt), expected, spoilt)
                    else:
                        self.assertIs(is_situation(NEST, spoilt), False, spoilt)

    def has_bool(self, value):
        if isinstance(value, tuple):
            return any(self.has_bool(each) for each in value)
        return isinstance(value, bool)

    def test_other_values(self):
        for value in ODD + BOOLS + [0, (), (0, (), ("main", 0), 0), [0, (), ("main", 0)], {0: 0}, FIX]:
            self.assertIs(is_situation(NEED, value), False, value)
        for value in NO_PROGRAMS:
            for situation in ((0, (), None), None):
                self.refuse(InvalidProgram, is_situation, value, situation)


class TestLookedUp(Checks):
    def test_the_nearest_call_that_answers(self):
        self.assertEqual(looked_up(NEST, (0, (MAIN, MID), ("low", 0)), "need"), 1)
        self.assertEqual(looked_up(NEST, (0, (MAIN, MID), ("low", 0)), "stop"), 0)
        self.assertEqual(looked_up(NEST, (0, (MAIN,), ("mid", 0)), "need"), 0)
        self.assertIs(looked_up(NEST, (0, (MID,), ("low", 0)), "stop"), None)

    def test_what_an_answer_raises_is_answered_further_out(self):
        inner = (0, (MAIN, MID, LOW + (1,)), ("fix", 0))
        self.assertEqual(looked_up(NEST, inner, "need"), 0)
        self.assertEqual(looked_up(NEST, inner, "stop"), 0)
        outer = (0, (MAIN, MID, LOW + (1,), FIXES + (0,)), ("fix", 0))
        self.assertIs(looked_up(NEST, outer, "need"), None)
        self.assertIs(looked_up(NEST, outer, "stop"), None)
        twice = (0, (("deep", 0), ("deep", 0), ("deep", 1, 1)), ("pass", 0))
        self.assertEqual(looked_up(PASS, twice, "ask"), 0)

    def test_nothing_open_and_ended(self):
        for spot in (("low", 0), None, "stop"):
            for signal in NEST.signals:
                self.assertIs(looked_up(NEST, (0, (), spot), signal), None)

    def test_all_by_the_words(self):
        for program in (NEED, PASS, NEST, *programs(12, 20, procedures=3, moves=4)):
            for situation in situations(program):
                for signal in program.signals:
                    found = looked_up(program, situation, signal)
                    self.assertEqual(found, lookup(program, situation[1], signal))
                    self.assertNotIsInstance(found, bool)

    def test_errors_in_their_order(self):
        wrong = ODD + BOOLS + [(0, (), ("main", 3)), (0, (), "ask"), (2, (), None), [0, (), None], (0, [], None)]
        self.check_order(
            looked_up, (NEED, InvalidProgram, None, NO_PROGRAMS),
            ((0, (("main", 0),), ("work", 0)), InvalidOperation, None, wrong), ("need", UnknownName, "name", NO_SIGNALS),
        )


class TestOptions(Checks):
    def test_the_examples(self):
        behind = options(NEED, ((1,), ()), (0, (), ("work", 0)))
        self.assertEqual(behind, ((0, (), "need"), (1, (), ("work", 1))))

    def test_ended(self):
        for spot in (None, "need"):
            self.assertEqual(options(NEED, ((0, 1), (0, 1)), (0, (), spot)), ())

    def test_go(self):
        made = Program(
            3, (0,), (),
            Procedure("p", 3, ("go", 0, 1, ((0, 0), (0, 2), (1, 0), (1, 1))), ("go", 1, 0, ((0, 0),)),
                      ("go", 0, 2, ((0, 1),)), ("go", 0, 0, ((0, 0),))),
        )
        behind = [(0, (), ("p", 1)), (2, (), ("p", 1)), (1, (), ("p", 2)), (0, (), ("p", 0))]
        self.assertEqual(options(made, (), (0, (), ("p", 0))), tuple(behind))
        self.assertEqual(options(made, (), (1, (), ("p", 0))), ((0, (), ("p", 1)), (1, (), ("p", 1))))
        self.assertEqual(options(made, (), (2, (), ("p", 0))), ())
        self.assertEqual(options(made, (), (0, (), ("p", 2))), ())

    def test_call(self):
        self.assertEqual(options(NEST, TABLE, (1, (MAIN,), ("mid", 0))), ((1, (MAIN, MID), ("low", 0)),))
        self.assertEqual(options(NEED, EMPTY, (0, (), ("main", 0))), ((0, (("main", 0),), ("work", 0)),))
        self.assertEqual(options(NEED, EMPTY, (1, (), ("main", 0))), ())

    def test_raise_that_something_open_answers(self):
        opened = (MAIN, MID)
        behind = options(NEST, TABLE, (0, opened, ("low", 0)))
        self.assertEqual(behind[0], (0, opened + (("low", 0, 1),), ("fix", 0)))
        self.assertEqual(behind[1], (0, opened + (("low", 1, 0),), ("low", 0)))
        self.assertEqual(behind[2:], ((0, opened, ("low", 0)), (2, opened, ("low", 0))))

    def test_raise_that_nothing_open_answers(self):
        behind = options(NEST, TABLE, (0, (), ("low", 0)))
        escaped = [(0, (), "need"), (0, (), ("low", 1)), (2, (), ("low", 1)), (0, (), "stop")]
        self.assertEqual(behind[:4], tuple(escaped))
        opened = (MAIN, MID, LOW + (1,), FIXES + (0,))
        behind = options(NEST, TABLE, (1, opened, ("fix", 0)))
        raised = [(1, (), "need"), (1, (), "stop")] + [(new, opened, ("fix", 0)) for new in (0, 1, 2)]
        self.assertEqual(behind[:-1], tuple(raised))

    def test_escapes_stand_ahead_of_resuming(self):
        full = ((0, 1, 2),) * 6
        behind = options(NEST, full, (1, (), ("fix", 0)))
        resumed = [[(new, (), ("fix", point)) for new in (0, 1, 2)] for point in (1, 0)]
        expected = [(1, (), "need"), *resumed[0], (1, (), "stop"), *resumed[1], (1, (), None)]
        self.assertEqual(behind, tuple(expected))

    def test_leave(self):
        self.assertEqual(options(NEST, TABLE, (2, (), ("low", 1))), ((2, (), None),))
        self.assertEqual(options(NEST, TABLE, (2, (MAIN, MID), ("low", 1))), ((2, (MAIN,), ("mid", 1)),))
        opened = (MAIN, MID, LOW + (1,))
        self.assertEqual(options(NEST, TABLE, (0, opened, ("fix", 1))), ((0, (MAIN, MID), ("low", 1)),))
        self.assertEqual(options(NEST, TABLE, (2, opened, ("fix", 1))), ((2, (MAIN,), ("mid", 1)),))

    def test_unwinding_ends_all_inside(self):
        opened = (MAIN, MID, LOW + (1,), FIXES + (0,))
        self.assertEqual(options(NEST, TABLE, (1, opened, ("fix", 1))), ((1, (), ("main", 2)),))
        self.assertEqual(options(NEST, TABLE, (2, opened, ("fix", 1))), ((2, opened[:3], ("fix", 1)),))
        stopped = (MAIN, MID, ("low", 1, 0))
        self.assertEqual(options(NEST, TABLE, (0, stopped, ("low", 1))), ((0, (), ("main", 0)),))
        self.assertEqual(options(NEST, TABLE, (2, stopped, ("low", 1))), ((2, (MAIN, MID), ("low", 1)),))

    def test_equal_moves_twice(self):
        made = Program(
            1, (0,), ("s",),
            Procedure("p", 1, ("raise", 0, 0, "s", (0,)), ("leave", 0, (0,)), ("leave", 0, (0,)),
                      ("raise", 0, 0, "s", (0,)), ("call", 0, 0, "p", (0,), ()), ("call", 0, 0, "p", (0,), ())),
        )
        escaped, resumed, left = (0, (), "s"), (0, (), ("p", 0)), (0, (), None)
        called = [(0, (("p", index),), ("p", 0)) for index in (4, 5)]
        behind = (escaped, resumed, left, left, escaped, resumed, *called)
        self.assertEqual(options(made, ((0,),), (0, (), ("p", 0))), behind)

    def test_options_are_situations(self):
        for program in (NEED, PASS, NEST, *programs(13, 20, procedures=3, moves=5)):
            for table in tables(5, program, 3):
                for situation in situations(program, 2):
                    for behind in options(program, table, situation):
                        self.assertIs(is_situation(program, behind), True)
                        self.assertLessEqual(len(behind[1]), len(situation[1]) + 1)

    def test_errors_in_their_order(self):
        wrong = ODD + BOOLS + [(0, (), ("main", 3)), (0, (("main", 1),), ("work", 0)), (2, (), None), [0, (), None]]
        self.check_order(
            options, (NEED, InvalidProgram, None, NO_PROGRAMS), (EMPTY, InvalidTable, None, NO_TABLES),
            ((0, (), ("main", 0)), InvalidOperation, None, wrong),
        )

    def test_the_situation_of_another_program(self):
        self.refuse(InvalidOperation, options, PASS, ((),), (0, (), ("main", 0)))
        self.refuse(InvalidTable, options, FULL, EMPTY, (0, (), ("wide", 0)))


if __name__ == "__main__":
    unittest.main()
