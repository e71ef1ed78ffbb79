"""Promises [7.1], [7.2] and stage 7: facts, derivations, and the runs that go along them."""

import random
import unittest

from answeredabove.base.programs import Procedure, Program
from answeredabove.errors import InvalidDerivation, InvalidFact, InvalidProgram, TooMany
from answeredabove.know.derivations import derivation_of, is_derivation, is_fact, run_of
from answeredabove.know.does import does
from answeredabove.run.runs import Run, options
from answeredabove.text.texts import read_program
from tests import reference
from tests.crowds import HOT, branching, crowd
from tests.helpers import BOOLS, FIX, FULL, NEED, NO_PROGRAMS, ODD, PASS, Checks, changed, nested, part, paths, spoiled
from tests.samples import contexts, programs
from tests.stale import FEW, FEW_TEXT, NEARLY, NEARLY_TEXT
from tests.test_does import MIXED
from tests.test_runs import TURN
from tests.test_situations import NEST

EMPTY = ((), ())
BOTH = ((1,), (1,))
UNWOUND = (
    (("escapes", "work", 0, EMPTY, "need", 0), (("raise", 0),)), (("leaves", "fix", 0, EMPTY, 0), (("leave", 1),)),
    (("leaves", "main", 0, EMPTY, 0), (("unwind", 0, EMPTY, "need", 0, 0), ("leave", 2))),
)
TURNED = (("leaves", "fix", 0, EMPTY, 1), (("go", 0, 1), ("leave", 1)))
STAYED = (("leaves", "fix", 1, EMPTY, 1), (("leave", 1),))


def resumed(inner):
    """The derivation that main of NEED can be left in 1, with this inner table."""
    return (
        TURNED, (("leaves", "work", 0, inner, 1), (("raise", 0, 1), ("leave", 1))),
        (("leaves", "main", 0, EMPTY, 1), (("call", 0, inner, 1), ("leave", 1))),
    )


RESUMED = resumed(((1,), ()))
PASSED = (
    (("escapes", "deep", 0, ((),), "ask", 0), (("raise", 1),)), (("escapes", "pass", 0, ((),), "ask", 0), (("raise", 0),)),
    (("escapes", "deep", 0, ((),), "ask", 0), (("answer", 0, ((),), "ask", 0),)),
)
LET_BY = (
    (("escapes", "low", 0, ((),) * 6, "stop", 2), (("go", 3, 2), ("raise", 1))),
    (("escapes", "mid", 0, ((),) * 6, "stop", 2), (("call", 0, ((),) * 6),)),
)


def facts(program, name, mode, table):
    """All facts of a context by their form."""
    found = [("leaves", name, mode, table, end) for end in range(program.modes)]
    return found + [
        ("escapes", name, mode, table, signal, end) for signal in program.signals for end in range(program.modes)
    ]


def is_true(program, fact):
    leaves, escapes = does(program, *fact[1:4])
    return fact[4] in leaves if fact[0] == "leaves" else fact[4:] in escapes


def points_of(program, fact, path):
    """The points to which the path leads, one after another."""
    found = [(0, fact[2])]
    for step in path[:-1]:
        move = program[fact[1]].moves[step[1]]
        if step[0] == "unwind":
            unwinds = [dict(unwinds) for signal, _, unwinds in move[5] if signal == step[3]][0]
            found.append((unwinds[step[5]], step[5]))
        else:
            found.append((move[2], step[-1]))
    return found


class TestFacts(Checks):
    def test_facts(self):
        self.assertIs(is_fact(NEED, ("leaves", "work", 1, ((1,), ()), 0)), True)
        for program in (NEED, PASS, FULL, NEST, *programs(41, 20)):
            for context in contexts(program):
                for fact in facts(program, *context):
                    self.assertIs(is_fact(program, fact), True)

    def test_no_facts(self):
        for value in ODD + BOOLS + [
            (), 0, "leaves", ("leaves", "work", 1, EMPTY), ("leaves", "work", 1, EMPTY, 2),
            ("leaves", "work", 2, EMPTY, 0), ("leaves", "gone", 0, EMPTY, 0), ("leaves", "work", 0, ((),), 0),
            ("leaves", "work", 0, EMPTY, "need", 0), ("escapes", "work", 0, EMPTY, 0),
            ("escapes", "work", 0, EMPTY, "ask", 0), ("escapes", "work", 0, EMPTY, "need", 2),
            ("escapes", "work", 0, EMPTY, 0, "need"), ("escapes", "work", 0, EMPTY, "need", 0, 0),
            ("comes", "work", 0, EMPTY, 0), ("leave", "work", 0, EMPTY, 0), ["leaves", "work", 0, EMPTY, 0], FIX,
            ("leaves", "need", 0, EMPTY, 0), ("escapes", "work", 0, EMPTY, "work", 0),
        ]:
            self.assertIs(is_fact(NEED, value), False, value)

    def test_each_part_of_a_wrong_kind(self):
        for value in (("leaves", "work", 1, ((1,), ()), 0), ("escapes", "work", 0, ((0, 1), (0,)), "need", 1)):
            for wrong in spoiled(value):
                self.assertIs(is_fact(NEED, wrong), reference.is_fact(NEED, wrong), wrong)
                self.assertIs(is_fact(NEED, wrong) and wrong != value, False)

    def test_no_program(self):
        for value in NO_PROGRAMS:
            for call in (is_fact, is_derivation):
                for other in (("leaves", "work", 1, EMPTY, 0), UNWOUND, None):
                    self.refuse(InvalidProgram, call, value, other)


class TestJudged(Checks):
    """Which values are derivations, whoever made them."""

    def judge(self, program, value, right):
        self.assertIs(is_derivation(program, value), right, value)
        self.assertIs(reference.is_derivation(program, value), right, value)

    def test_the_examples(self):
        self.assertEqual([is_derivation(NEED, UNWOUND), is_derivation(NEED, UNWOUND[1:])], [True, False])

    def test_derivations(self):
        for program, value in ((NEED, UNWOUND), (NEED, RESUMED), (PASS, PASSED), (NEST, LET_BY)):
            self.judge(program, value, True)
            for end in range(1, len(value)):
                self.judge(program, value[:end], True)

    def test_paths_of_one_step(self):
        self.judge(NEED, (STAYED,), True)
        self.judge(NEED, (TURNED,), True)
        self.judge(NEED, ((TURNED[0], TURNED[1][1:]),), False)
        self.judge(NEED, ((STAYED[0], ()),), False)
        self.judge(NEED, ((STAYED[0], (("leave", 1), ("leave", 1))),), False)

    def test_lines_that_are_not_needed(self):
        self.judge(NEED, (STAYED,) + UNWOUND, True)
        self.judge(NEED, UNWOUND + RESUMED, True)
        self.judge(NEED, RESUMED * 2 + UNWOUND, True)
        self.judge(NEED, (STAYED, STAYED, STAYED), True)
        wrong = (("leaves", "fix", 1, EMPTY, 0), (("leave", 1),))
        for at in range(4):
            self.judge(NEED, UNWOUND[:at] + (wrong,) + UNWOUND[at:], False)

    def test_a_line_ahead_that_is_missing_or_behind(self):
        for program, value in ((NEED, UNWOUND), (NEED, RESUMED), (PASS, PASSED), (NEST, LET_BY)):
            for at in range(len(value) - 1):
                self.judge(program, value[:at] + value[at + 1:], False)
                self.judge(program, value[:at] + value[at + 1:] + value[at:at + 1], False)
            self.judge(program, value[::-1], False)

    def test_a_line_does_not_rest_on_itself(self):
        loop = Program(1, (0,), (), Procedure("p", 2, ("call", 0, 1, "p", (0,), ()), ("leave", 1, (0,))))
        line = (("leaves", "p", 0, (), 0), (("call", 0, (), 0), ("leave", 1)))
        for many in (1, 2, 3):
            self.judge(loop, (line,) * many, False)

    def test_less_and_more_than_the_inner_table(self):
        self.judge(NEED, resumed(((1,), ())), True)
        self.judge(NEED, resumed(BOTH), False)
        self.judge(NEED, (STAYED,) + resumed(BOTH), True)
        self.judge(NEED, resumed(EMPTY), False)
        # The answer can be left in 0, but it unwinds there.
        left = (("leaves", "fix", 0, EMPTY, 0), (("leave", 1),))
        self.judge(NEED, (left, TURNED) + resumed(((0, 1), ())), False)

    def test_an_inner_table_keeps_what_is_not_answered(self):
        table, more = ((), (), (), (), (2,), ()), ((), (), (), (), (1, 2), ())
        line = ((("escapes", "low", 0, table, "stop", 2), (("go", 3, 2), ("raise", 1))),)
        for around, inside, right in (
            (table, table, True), (more, table, True), (table, more, False), (((),) * 6, table, False),
            (more, ((),) * 6, False), (((),) * 6, more, False),
        ):
            value = line + ((("escapes", "mid", 0, around, "stop", 2), (("call", 0, inside),)),)
            self.judge(NEST, value, right)

    def test_paths_around_loops(self):
        for many in (0, 1, 5):
            value = ((("leaves", "turn", 0, (), 0), (("go", 0, 0),) * many + (("leave", 1),)),)
            self.judge(TURN, value, True)

    def test_a_step_of_another_kind(self):
        # The answer resumes in 1, the call answers the signal, and what is left does not escape.
        other = ((("leaves", "main", 0, EMPTY, 1), (("unwind", 0, EMPTY, "need", 0, 1), ("leave", 1))),)
        self.judge(NEED, (UNWOUND[0], TURNED) + other, False)
        self.judge(PASS, PASSED[:2] + ((PASSED[2][0], (("call", 0, ((),)),)),), False)
        self.judge(NEST, LET_BY[:1] + ((LET_BY[1][0], (("answer", 0, ((),) * 6, "stop", 2),)),), False)
        self.judge(NEED, ((("escapes", "fix", 0, EMPTY, "need", 0), (("leave", 1),)),), False)
        self.judge(NEED, ((("leaves", "work", 0, EMPTY, 0), (("raise", 0),)),), False)
        self.judge(NEED, (UNWOUND[0], (("leaves", "main", 0, EMPTY, 0), (("call", 0, EMPTY),))), False)

    def test_equal_moves_twice(self):
        made = Program(1, (0,), (), Procedure("p", 1, ("leave", 0, (0,)), ("go", 0, 0, ((0, 0),)), ("leave", 0, (0,))))
        for index, right in ((0, True), (1, False), (2, True), (3, False), (-1, False)):
            self.judge(made, ((("leaves", "p", 0, (), 0), (("leave", index),)),), right)

    def test_other_values(self):
        for value in ODD + BOOLS + [
            (), 0, [*UNWOUND], {0: UNWOUND}, (UNWOUND,), UNWOUND[0], (UNWOUND[0][0],), ((),), FIX,
            (UNWOUND[0] + (None,),), UNWOUND + (None,), (list(UNWOUND[0]),), nested(tuple, 12),
        ]:
            self.judge(NEED, value, False)

    def test_each_part_of_a_wrong_kind(self):
        for program, value in ((NEED, UNWOUND), (NEED, RESUMED), (PASS, PASSED)):
            for path in paths(value):
                here = part(value, path)
                wrong = ODD[::3] + BOOLS + [0, 1, 2, (), "need", "ask", "leave", [here], (here,)]
                wrong += [list(here), here + (None,), here[:-1], here + here[:1]] if isinstance(here, tuple) else []
                for odd in wrong:
                    spoilt = changed(value, path, odd)
                    self.assertIs(is_derivation(program, spoilt), reference.is_derivation(program, spoilt), spoilt)

    def test_true_and_false_are_no_integers(self):
        for program, value in ((NEED, UNWOUND), (NEED, RESUMED), (PASS, PASSED), (NEST, LET_BY)):
            for path in paths(value):
                here = part(value, path)
                if here in (0, 1) and isinstance(here, int):
                    self.judge(program, changed(value, path, bool(here)), False)

    def test_samples_that_are_changed(self):
        draw = random.Random(5)
        judged = []
        for at, program in enumerate(programs(42, 250, modes=3)):
            for context in contexts(program, at)[::4]:
                for fact in facts(program, *context):
                    value = derivation_of(program, fact)
                    if value is not None:
                        self.judge(program, value, True)
                        judged.extend(self.judge_changed(program, value, draw) for _ in range(12))
        self.assertGreater(judged.count(True), 200)
        self.assertGreater(judged.count(False), 200)

    def judge_changed(self, program, value, draw):
        at = draw.randrange(len(value))
        path = draw.choice([path for path in paths(value[at])])
        here = part(value[at], path)
        if isinstance(here, int):
            new = draw.choice([0, 1, 2, 3])
        elif isinstance(here, str):
            new = draw.choice([*program.names, *program.signals, "go", "raise", "call", "unwind", "leave", "answer"])
        else:
            new = draw.choice([(), (0,), (1,), (0, 1), here[1:], here[:-1], here + here])
        spoilt = draw.choice([
            value[:at] + (changed(value[at], path, new),) + value[at + 1:], value[:at] + value[at + 1:],
            value[at:] + value[:at], value + value[:at],
        ])
        right = reference.is_derivation(program, spoilt)
        self.assertIs(is_derivation(program, spoilt), right, (program, spoilt))
        return right


class TestFound(Checks):
    def check(self, program, context):
        """A derivation for every fact that is true, and none for every other one; and its run."""
        for fact in facts(program, *context):
            value = derivation_of(program, fact)
            if not is_true(program, fact):
                self.assertIs(value, None, fact)
            else:
                self.assertEqual(value[-1][0], fact)
                self.assertIs(is_derivation(program, value), True)
                self.assertIs(reference.is_derivation(program, value), True)
                self.check_run(program, fact, value)

    def check_run(self, program, fact, value):
        run = run_of(program, value)
        self.assertIs(type(run), Run)
        self.assertEqual([run.program, run.called, run.situations[0], run.table],
                         [program, fact[1], (fact[2], (), (fact[1], 0)), fact[3]])
        if fact[0] == "leaves":
            self.assertEqual(run.situation, (fact[4], (), None))
        else:
            self.assertEqual(run.situation, (fact[5], (), fact[4]))
        spots = [(each[2][1], each[0]) for each in run.situations if each[1] == () and isinstance(each[2], tuple)]
        self.assertEqual(spots, points_of(program, fact, value[-1][1]))

    def test_the_examples(self):
        self.assertIs(derivation_of(NEED, ("leaves", "work", 0, EMPTY, 1)), None)
        found = derivation_of(NEED, ("leaves", "main", 0, EMPTY, 1))
        self.assertEqual([is_derivation(NEED, found), len(run_of(NEED, found))], [True, 6])

    def test_small_programs(self):
        for program in (NEED, PASS, NEST, MIXED):
            for context in contexts(program, many=4):
                self.check(program, context)

    def test_samples(self):
        for at, program in enumerate(programs(43, 120)):
            for context in contexts(program, at)[::3]:
                self.check(program, context)

    def test_large_samples(self):
        for at, program in enumerate(programs(44, 60, 6, 4, 3, 3, 10)):
            for context in contexts(program, at)[::11]:
                try:
                    does(program, *context)
                except TooMany:
                    self.refuse(TooMany, derivation_of, program, ("leaves", *context, 0))
                else:
                    self.check(program, context)

    def test_where_much_is_learned_that_is_not_met_in_the_end(self):
        for text, context, fact in (
            (FEW_TEXT, FEW, ("leaves", *FEW, 3)), (FEW_TEXT, FEW, ("escapes", *FEW, "stop", 3)),
            (NEARLY_TEXT, NEARLY, ("leaves", *NEARLY, 2)), (NEARLY_TEXT, NEARLY, ("escapes", *NEARLY, "need", 1)),
        ):
            program = read_program(text)
            found = derivation_of(program, fact)
            self.assertIs(is_derivation(program, found), True)
            self.assertIs(reference.is_derivation(program, found), True)
            self.check_run(program, fact, found)
        self.assertIs(derivation_of(read_program(FEW_TEXT), ("leaves", *FEW, 1)), None)

    def test_many_tables(self):
        found = derivation_of(crowd(8), ("leaves", "root", 0, HOT, 0))
        self.assertIs(is_derivation(crowd(8), found), True)
        for fact in (("leaves", "root", 0, HOT, 0), ("leaves", "root", 0, HOT, 1), ("escapes", "root", 0, HOT, "aa", 0)):
            self.assertEqual(self.refuse(TooMany, derivation_of, crowd(9), fact).limit, 200)
        for end in range(4):
            self.refuse(TooMany, derivation_of, branching(""), ("leaves", "main", 0, ((),) * 4, end))

    def test_errors_in_their_order(self):
        wrong = ODD + BOOLS + [
            (), ("leaves", "work", 0, EMPTY, 2), ("leaves", "work", 0, EMPTY, "need", 0), ("leaves", "work", 0, EMPTY),
            ("escapes", "work", 0, EMPTY, 0), ["leaves", "work", 0, EMPTY, 0], ("leaves", "gone", 0, EMPTY, 0), FIX,
        ]
        rows = (NEED, InvalidProgram, None, NO_PROGRAMS), (TURNED[0], InvalidFact, None, wrong)
        self.check_order(derivation_of, *rows)
        self.refuse(InvalidFact, derivation_of, crowd(9), ("leaves", "root", 0, HOT, 4))


class TestRuns(Checks):
    def test_the_examples(self):
        self.assertEqual(run_of(NEED, UNWOUND).choices, (0, 0, 1, 0))
        self.assertEqual(run_of(NEED, RESUMED).choices, (0, 0, 0, 0, 0, 0))
        self.assertEqual(run_of(PASS, PASSED).choices, (0, 1, 0))
        self.assertEqual(run_of(PASS, PASSED).situation, (0, (), "ask"))

    def test_under_a_table(self):
        table = ((0, 1), (1,))
        value = ((("leaves", "work", 0, table, 1), (("raise", 0, 1), ("leave", 1))),)
        run = run_of(NEED, value)
        self.assertEqual([run.table, run.choices], [table, (2, 0)])
        value = ((("escapes", "work", 1, table, "need", 1), (("raise", 0),)),)
        self.assertEqual(run_of(NEED, value).choices, (0,))

    def test_what_escapes_in_the_mode_in_which_it_could_be_resumed(self):
        made = Program(1, (0,), ("s",), Procedure("p", 1, ("raise", 0, 0, "s", (0,)), ("leave", 0, (0,))))
        value = ((("escapes", "p", 0, ((0,),), "s", 0), (("raise", 0, 0), ("raise", 0, 0), ("raise", 0))),)
        run = run_of(made, value)
        self.assertEqual([run.choices, run.situation], [(1, 1, 0), (0, (), "s")])

    def test_the_move_that_the_step_tells(self):
        made = Program(
            2, (0,), (),
            Procedure("p", 1, ("go", 0, 0, ((0, 0), (0, 1))), ("go", 0, 0, ((0, 0), (0, 1))), ("leave", 0, (0, 1)),
                      ("leave", 0, (1,)), ("call", 0, 0, "p", (0, 1), ()), ("call", 0, 0, "p", (0, 1), ())),
        )
        for go in (0, 1):
            for new in (0, 1):
                for leave in (2, 3) if new == 1 else (2,):
                    value = ((("leaves", "p", 0, (), new), (("go", go, new), ("leave", leave))),)
                    # In 1 no go can be made, so what stands behind both begins at 0 then.
                    last = leave + 2 if new == 0 else leave - 2
                    self.assertEqual(run_of(made, value).choices, (2 * go + new, last))
        left = (("leaves", "p", 0, (), 0), (("leave", 2),))
        for call in (4, 5):
            value = (left, (left[0], (("call", call, (), 0), ("leave", 2))))
            self.assertEqual(run_of(made, value).choices, (call + 1, 4, 4))

    def test_the_first_line_with_a_fact_but_the_last_line_by_its_own_path(self):
        turns = ((("go", 0, 0),) * many + (("leave", 1),) for many in (2, 0, 5))
        fact = ("leaves", "turn", 0, (), 0)
        first, other, last = [(fact, path) for path in turns]
        self.assertEqual(len(run_of(TURN, (first, other, last))), 6)
        self.assertEqual(len(run_of(TURN, (first, other))), 1)
        made = Program(1, (0,), (), *TURN.procedures, Procedure(
            "p", 2, ("call", 0, 1, "turn", (0,), ()), ("call", 1, 1, "turn", (0,), ()), ("leave", 1, (0,)),
        ))
        outer = (("leaves", "p", 0, (), 0), (("call", 0, (), 0), ("call", 1, (), 0), ("leave", 2)))
        self.assertEqual(run_of(made, (first, other, outer)).choices, (0, 0, 0, 1, 0, 0, 0, 1, 1))
        self.assertEqual(run_of(made, (other, first, outer)).choices, (0, 1, 0, 1, 1))

    def test_the_first_line_for_a_shown_mode(self):
        twice = (TURNED[0], (("go", 0, 1), ("leave", 1)))
        made = NEED.with_procedure(Procedure("fix", 1, *FIX.moves, ("go", 0, 0, ((1, 1),))))
        longer = (TURNED[0], (("go", 0, 1), ("go", 2, 1), ("leave", 1)))
        inner = ((1,), ())
        for lines, many in (((twice, longer), 6), ((longer, twice), 7)):
            self.assertEqual(len(run_of(made, lines + resumed(inner)[1:])), many)

    def test_an_answer_asks_what_is_open_outside_of_its_call(self):
        # The raise in `low` is answered by `by`, which raises the same signal, which main's call answers.
        made = Program(
            2, (0,), ("s",),
            Procedure("main", 2, ("call", 0, 1, "mid", (0,), (("s", "top", ()),)), ("leave", 1, (0, 1))),
            Procedure("mid", 2, ("call", 0, 1, "low", (0,), (("s", "by", ()),)), ("leave", 1, (0, 1))),
            Procedure("low", 2, ("raise", 0, 1, "s", (0,)), ("leave", 1, (0, 1))),
            Procedure("by", 2, ("raise", 0, 1, "s", (0,)), ("leave", 1, (0, 1))),
            Procedure("top", 2, ("go", 0, 1, ((0, 1),)), ("leave", 1, (1,))),
        )
        one = ((1,), ())
        value = (
            (("leaves", "top", 0, EMPTY, 1), (("go", 0, 1), ("leave", 1))),
            (("leaves", "by", 0, one, 1), (("raise", 0, 1), ("leave", 1))),
            (("leaves", "low", 0, one, 1), (("raise", 0, 1), ("leave", 1))),
            (("leaves", "mid", 0, one, 1), (("call", 0, one, 1), ("leave", 1))),
            (("leaves", "main", 0, EMPTY, 1), (("call", 0, one, 1), ("leave", 1))),
        )
        run = run_of(made, value)
        self.assertEqual(run.answered, (("mid", 0, "s"), ("main", 0, "s")))
        self.assertEqual([run.deepest, run.situation, len(run)], [4, (1, (), None), 10])

    def test_1000_and_1001_steps(self):
        fact = ("leaves", "turn", 0, (), 0)
        for many in (998, 999):
            run = run_of(TURN, ((fact, (("go", 0, 0),) * many + (("leave", 1),)),))
            self.assertEqual(len(run), many + 1)
        for many in (1000, 3000):
            value = ((fact, (("go", 0, 0),) * many + (("leave", 1),)),)
            self.assertEqual(self.refuse(TooMany, run_of, TURN, value).limit, 1000)

    def test_runs_that_would_be_very_long(self):
        names = "abcdefghi"
        made = [Procedure("a", 1, ("leave", 0, (0,)))]
        made += [Procedure(name, 1, ("call", 0, 0, ahead, (0,), ()), ("leave", 0, (0,)))
                 for ahead, name in zip(names, names[1:])]
        lines = [(("leaves", "a", 0, (), 0), (("leave", 0),))]
        lines += [(("leaves", name, 0, (), 0), (("call", 0, (), 0),) * 50 + (("leave", 1),)) for name in names[1:]]
        program = Program(1, (0,), (), *made)
        self.assertEqual(len(run_of(program, tuple(lines[:2]))), 101)
        self.refuse(TooMany, run_of, program, tuple(lines[:3]))
        self.refuse(TooMany, run_of, program, tuple(lines))

    def test_each_situation_is_an_option(self):
        for program, value in ((NEED, UNWOUND), (NEED, RESUMED), (PASS, PASSED), (NEST, LET_BY)):
            run = run_of(program, value)
            for at, choice in enumerate(run.choices):
                self.assertEqual(options(program, run.table, run.situations[at])[choice], run.situations[at + 1])

    def test_errors_in_their_order(self):
        wrong = ODD + BOOLS + [(), UNWOUND[1:], UNWOUND[::-1], [*UNWOUND], UNWOUND[0], (UNWOUND[0][0],), FIX, 0]
        rows = (NEED, InvalidProgram, None, NO_PROGRAMS), (UNWOUND, InvalidDerivation, None, wrong)
        self.check_order(run_of, *rows)
        fact = ("leaves", "turn", 0, (), 0)
        self.refuse(InvalidDerivation, run_of, TURN, ((fact, (("go", 0, 0),) * 2000 + (("leave", 0),)),))


if __name__ == "__main__":
    unittest.main()
