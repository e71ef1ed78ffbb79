"""Promises [0.17] to [0.20] and stage 6: what procedures do."""

import unittest

from answeredabove.base.programs import Procedure, Program
from answeredabove.errors import InvalidMode, InvalidProgram, InvalidTable, TooMany, UnknownName, UnknownSite
from answeredabove.know.books import contexts_met
from answeredabove.know.does import does, inner_table, reached
from answeredabove.know.tables import empty_table, full_table, is_within
from answeredabove.text.texts import read_program
from tests.crowds import HOT, OTHERS, branching, crowd
from tests.helpers import BOOLS, FIX, NEED, NO_PROGRAMS, ODD, PASS, Checks
from tests.oracle import Oracle, ends_of_runs
from tests.samples import contexts, programs, tables
from tests.stale import FEW, FEW_TEXT, NEARLY, NEARLY_TEXT
from tests.test_runs import NO_NAMES
from tests.test_situations import NEST
from tests.test_tables import NO_MODES, NO_TABLES

EMPTY = ((), ())
NO_CALLS = ODD + BOOLS + [
    "main", (), ("main", 1), ("main", 3), ("main", -3), ("main", False), ("work", 0), ("fix", 0), ["main", 0],
    ("main", 0, "need"), ("deep", 0), ("main", "0"), (FIX, 0), ("main", FIX), 0,
]
# An answer that unwinds in 0, resumes in 1 and raises its signal again from 2; a call that is never come to.
MIXED = Program(
    3, (0,), ("ask", "stop"),
    Procedure(
        "main", 4, ("call", 0, 1, "low", (0, 1, 2), (("ask", "mix", ((0, 2),)),)), ("leave", 1, (0, 1, 2)),
        ("leave", 2, (0,)), ("call", 3, 1, "main", (0, 1, 2), ()), ("call", 1, 3, "low", (2,), (("stop", "mix", ()),)),
    ),
    Procedure("low", 2, ("raise", 0, 1, "ask", (0, 1, 2)), ("raise", 1, 1, "stop", (1,)), ("leave", 1, (1, 2))),
    Procedure("mix", 2, ("go", 0, 1, ((0, 0), (0, 1), (1, 1))), ("raise", 0, 1, "ask", (2,)), ("leave", 1, (0, 1, 2))),
)


class TestExamples(Checks):
    def test_the_examples(self):
        self.assertEqual(does(NEED, "main", 0, EMPTY), ((0, 1), ()))
        self.assertEqual(does(NEED, "work", 0, EMPTY), ((), (("need", 0),)))
        self.assertEqual(does(NEED, "fix", 0, EMPTY), ((0, 1), ()))
        self.assertEqual(inner_table(NEED, EMPTY, ("main", 0)), ((1,), (1,)))
        self.assertEqual(does(NEED, "work", 0, ((1,), (1,))), ((1,), (("need", 0),)))
        self.assertEqual(reached(NEED, "main", 0, EMPTY), ((0, 0), (1, 1), (2, 0)))
        self.assertEqual(does(PASS, "deep", 0, ((),)), ((), (("ask", 0),)))
        self.assertEqual(does(PASS, "deep", 0, ((0,),)), ((0,), (("ask", 0),)))


class TestByHand(Checks):
    def test_answers_that_unwind_resume_and_raise_again(self):
        empty = empty_table(MIXED)
        self.assertEqual(inner_table(MIXED, empty, ("main", 0)), ((1,), (1,), (), (), (), ()))
        self.assertEqual(does(MIXED, "low", 0, ((1,), (1,), (), (), (), ())), ((1,), (("ask", 0), ("stop", 1))))
        self.assertEqual(does(MIXED, "main", 0, empty), ((0, 1), (("stop", 1),)))
        self.assertEqual(does(MIXED, "main", 1, empty), ((1,), (("stop", 1),)))
        self.assertEqual(does(MIXED, "main", 2, empty), ((), (("ask", 2),)))
        self.assertEqual(reached(MIXED, "main", 0, empty), ((0, 0), (1, 1), (2, 0)))

    def test_what_an_answer_raises_is_resumed_by_the_table(self):
        table = ((), (), (2,), (), (), ())
        self.assertEqual(inner_table(MIXED, table, ("main", 0)), ((1,), (1,), (2,), (), (), ()))
        self.assertEqual(inner_table(MIXED, table, ("main", 4)), ((), (), (2,), (0, 1), (1,), (2,)))
        self.assertEqual(does(MIXED, "main", 2, table), ((2,), (("ask", 2),)))
        self.assertEqual(reached(MIXED, "main", 2, table), ((0, 2), (1, 2), (3, 2)))

    def test_a_call_that_is_never_come_to(self):
        made = Program(
            2, (0,), ("ask",),
            Procedure("main", 2, ("call", 0, 1, "low", (1,), ()), ("call", 1, 1, "low", (0,), ()), ("leave", 0, (0,))),
            Procedure("low", 1, ("raise", 0, 0, "ask", (0, 1))),
        )
        self.assertEqual(does(made, "main", 0, EMPTY), ((0,), ()))
        self.assertEqual(does(made, "main", 1, EMPTY), ((), (("ask", 1),)))
        self.assertEqual(contexts_met(made, "main", 0, EMPTY), (("main", 0, EMPTY),))

    def test_procedures_that_call_themselves(self):
        loop = Program(1, (0,), (), Procedure("p", 2, ("call", 0, 1, "p", (0,), ()), ("leave", 1, (0,))))
        self.assertEqual(does(loop, "p", 0, ()), ((), ()))
        self.assertEqual(reached(loop, "p", 0, ()), ((0, 0),))
        ends = Program(2, (0,), (), Procedure(
            "p", 2, ("call", 0, 1, "p", (0,), ()), ("go", 0, 1, ((0, 1),)), ("go", 1, 1, ((1, 0),)),
            ("leave", 1, (0, 1)),
        ))
        self.assertEqual(does(ends, "p", 0, ()), ((0, 1), ()))
        self.assertEqual(does(ends, "p", 1, ()), ((), ()))

    def test_answers_that_call_what_they_answer(self):
        made = Program(
            2, (0,), ("ask",),
            Procedure("main", 2, ("call", 0, 1, "low", (0, 1), (("ask", "by", ()),)), ("leave", 1, (0, 1))),
            Procedure("low", 2, ("raise", 0, 1, "ask", (0,)), ("leave", 0, (1,)), ("leave", 1, (0, 1))),
            Procedure("by", 2, ("go", 0, 1, ((0, 1),)), ("call", 1, 1, "main", (1,), ()), ("leave", 1, (1,))),
        )
        self.assertEqual(does(made, "main", 0, EMPTY), ((1,), ()))
        self.assertEqual(inner_table(made, EMPTY, ("main", 0)), ((1,), ()))

    def test_no_signals(self):
        made = Program(2, (0,), (), Procedure("p", 2, ("go", 0, 1, ((0, 0), (0, 1))), ("leave", 1, (1,)),
                                              ("call", 0, 0, "p", (1,), ())))
        self.assertEqual(does(made, "p", 0, ()), ((1,), ()))
        self.assertEqual(reached(made, "p", 0, ()), ((0, 0), (1, 0), (1, 1)))
        self.assertEqual(inner_table(made, (), ("p", 2)), ())

    def test_the_full_table(self):
        for program in (NEED, PASS, NEST, MIXED):
            full = full_table(program)
            for name in program.names:
                for mode in range(program.modes):
                    for leaves, around in zip(does(program, name, mode, empty_table(program)),
                                              does(program, name, mode, full)):
                        self.assertLessEqual(set(leaves), set(around))

    def test_answers_of_no_use(self):
        made = NEED.with_answers(("main", 0), (("need", "work", ()),))
        self.assertEqual(does(made, "main", 0, EMPTY), ((), (("need", 0),)))
        self.assertEqual(does(made, "main", 0, ((1,), ())), ((1,), (("need", 0),)))


class TestAgainstTheWords(Checks):
    def check(self, program, context):
        told = Oracle(program, [context])
        self.assertEqual(contexts_met(program, *context), tuple(sorted(told.met)))
        for each in told.met:
            leaves, escapes = told.told[each]
            self.assertEqual(does(program, *each), (tuple(sorted(leaves)), tuple(sorted(escapes))))
            self.assertEqual(reached(program, *each), tuple(sorted(told.states[each])))
        name, _, table = context
        for index, move in enumerate(program[name].moves):
            if move[0] == "call":
                Oracle.inner(told, table, move)
                again = Oracle(program, [(by, mode, table) for _, by, _ in move[5] for mode in range(program.modes)])
                self.assertEqual(inner_table(program, table, (name, index)), again.inner(table, move))

    def test_small_programs(self):
        for program in (NEED, PASS, NEST, MIXED):
            for context in contexts(program, many=4):
                self.check(program, context)

    def test_samples(self):
        for at, program in enumerate(programs(31, 150)):
            for context in contexts(program, at)[::5]:
                self.check(program, context)

    def test_large_samples(self):
        for at, program in enumerate(programs(32, 40, 6, 4, 3, 3, 10)):
            for context in contexts(program, at)[::17]:
                told = Oracle(program, [context])
                if len({each[2] for each in told.met}) <= 200:
                    self.check(program, context)

    def test_within_another_table(self):
        for program in programs(33, 40, modes=3, signals=2):
            for one in tables(8, program, 4):
                for other in tables(9, program, 4) + [full_table(program)]:
                    if is_within(program, one, other):
                        for name in program.names:
                            inside, around = does(program, name, 0, one), does(program, name, 0, other)
                            self.assertLessEqual(set(inside[0]), set(around[0]))
                            self.assertLessEqual(set(inside[1]), set(around[1]))


class TestAgainstRuns(Checks):
    """What a run ends with is told, and what is told is what a run ends with."""

    def check(self, program, context, deepest):
        leaves, escapes = does(program, *context)
        ends = ends_of_runs(program, *context, deepest)
        self.assertLessEqual(set(ends[0]), set(leaves))
        self.assertLessEqual(set(ends[1]), set(escapes))
        self.assertLessEqual(set(ends[2]), set(reached(program, *context)))
        same = ends[:3] == (leaves, escapes, reached(program, *context))
        self.assertTrue(same or not ends[3], context)
        return same

    def test_small_programs(self):
        for program in (NEED, PASS, NEST, MIXED):
            for context in contexts(program, many=4):
                self.assertTrue(self.check(program, context, 6), context)

    def test_samples(self):
        same = [
            self.check(program, context, 6)
            for at, program in enumerate(programs(34, 150)) for context in contexts(program, at)[::3]
        ]
        # Runs in which at most six calls and raises are open tell nearly all.
        self.assertGreater(sum(same), len(same) * 0.98)


class TestManyTables(Checks):
    def test_just_200_and_201(self):
        for more in (0, 7, 8):
            made = crowd(more)
            self.assertEqual(does(made, "root", 0, HOT), ((0,), ()))
            self.assertEqual(reached(made, "root", 1, HOT), ((0, 1),))
            self.assertEqual(len({each[2] for each in contexts_met(made, "root", 0, HOT)}), 192 + more)
        for more in (9, 10):
            made = crowd(more)
            for call in (does, reached, contexts_met):
                self.assertEqual(self.refuse(TooMany, call, made, "root", 0, HOT).limit, 200)
            self.assertEqual(does(made, "root", 0, empty_table(made)), ((0,), ()))
            self.assertEqual(does(made, "never", 0, HOT), ((), ()))

    def test_what_is_not_met_does_not_count(self):
        made = crowd(10)
        moves = [move if move[0] != "call" else ("call", 1, *move[2:]) for move in made["root"].moves]
        self.assertEqual(does(made.with_procedure(Procedure("root", 2, *moves)), "root", 0, HOT), ((0,), ()))

    def test_the_inner_table(self):
        for more, last in ((8, True), (9, False)):
            made = crowd(more)
            call = ("call", 0, 0, "never", (0,), (("aa", "root", ()), ("cc", "seta", ())))
            made = made.with_procedure(Procedure("other", 1, call))
            if last:
                inner = inner_table(made, HOT, ("other", 0))
                self.assertEqual(inner, ((0,), (), (), ()) + HOT[4:8] + ((0,), (), (), ()))
            else:
                self.assertEqual(self.refuse(TooMany, inner_table, made, HOT, ("other", 0)).limit, 200)
            self.assertEqual(inner_table(made, HOT, ("root", 0)), HOT)

    def test_each_context_of_an_answer_counts_alone(self):
        # One of the answers meets 192 tables, the other one 65, of which they have one in common.
        more = ("call", 0, 0, "wheel", (0, 1, 2, 3), (("aa", "setb", ()),))
        call = ("call", 1, 1, "never", (0,), (("aa", "root", ()), ("bb", "again", ())))
        made = crowd(0).with_procedure(Procedure("again", 1, more, ("leave", 0, (2,))))
        made = made.with_procedure(Procedure("never", 2, call))
        self.assertEqual(len({each[2] for each in contexts_met(made, "again", 0, HOT)}), 65)
        self.assertEqual(inner_table(made, HOT, ("never", 0))[4:8], ((), (), (2,), ()))
        both = Procedure("root", 1, *made["root"].moves, ("call", 0, 0, "again", (0,), ()))
        self.refuse(TooMany, does, made.with_procedure(both), "root", 0, HOT)

    def test_very_many(self):
        for kind in ("", "answers call main"):
            made = branching(kind)
            for call in (does, reached, contexts_met):
                self.refuse(TooMany, call, made, "main", 0, empty_table(made))
            self.assertEqual(does(branching(""), "one", 0, empty_table(made)), ((0,), (("ask", 1),)))

    def test_few_in_the_end(self):
        for text, context, many, told in (
            (FEW_TEXT, FEW, 45, ((3,), (("ask", 3), ("stop", 3)))), (NEARLY_TEXT, NEARLY, 197, None),
        ):
            made = read_program(text)
            self.assertEqual(len({each[2] for each in contexts_met(made, *context)}), many)
            if told is not None:
                self.assertEqual(does(made, *context), told)


class TestErrors(Checks):
    def test_errors_in_their_order(self):
        rows = [
            (NEED, InvalidProgram, None, NO_PROGRAMS), ("main", UnknownName, "name", NO_NAMES),
            (0, InvalidMode, None, NO_MODES), (EMPTY, InvalidTable, None, NO_TABLES),
        ]
        for call in (does, reached, contexts_met):
            self.check_order(call, *rows)
        self.check_order(inner_table, rows[0], rows[3], (("main", 0), UnknownSite, "site", NO_CALLS))

    def test_the_limit_comes_last(self):
        made = crowd(9)
        for call in (does, reached, contexts_met):
            self.refuse(UnknownName, call, made, "main", 0, HOT)
            self.refuse(InvalidMode, call, made, "root", 4, HOT)
            self.refuse(InvalidTable, call, made, "root", 0, HOT[1:])
        self.refuse(UnknownSite, inner_table, made, HOT, ("root", len(OTHERS)))

    def test_nothing_is_changed(self):
        before = (NEED.procedures, str(NEED))
        first = does(NEED, "main", 0, EMPTY)
        self.assertEqual([does(NEED, "main", 0, EMPTY), (NEED.procedures, str(NEED))], [first, before])


if __name__ == "__main__":
    unittest.main()
