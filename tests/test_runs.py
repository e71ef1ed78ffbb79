"""Promise [0.16] and stage 4: runs."""

import random
import unittest

from answeredabove.base.programs import Procedure, Program
from answeredabove.errors import InvalidMode, InvalidNumber, InvalidOperation, InvalidProgram, InvalidRun, InvalidTable
from answeredabove.errors import TooMany, UnknownName
from answeredabove.know.tables import empty_table
from answeredabove.run.runs import Run, looked_up, options
from tests.helpers import BOOLS, FIX, NEED, NO_PROGRAMS, ODD, PASS, Checks
from tests.samples import programs, tables
from tests.test_situations import NEST
from tests.test_tables import NO_MODES, NO_TABLES

EMPTY = ((), ())
TURN = Program(1, (0,), (), Procedure("turn", 1, ("go", 0, 0, ((0, 0),)), ("leave", 0, (0,))))
NO_NAMES = ODD + BOOLS + ["need", "gone", 0, (), ("main",), ["main"], FIX]


def answers_begun(run):
    """The answers that were begun, by the words of the document."""
    found = []
    for before, behind in zip(run.situations, run.situations[1:]):
        if len(behind[1]) == len(before[1]) + 1 and len(behind[1][-1]) == 3:
            name, index, level = behind[1][-1]
            found.append((*behind[1][level], run.program[name].moves[index][3]))
    return tuple(found)


def drawn(program, seed, many):
    """Runs of the program, drawn by a seed."""
    draw = random.Random(seed)
    for table in tables(seed, program, many):
        run = Run(program, draw.choice(program.names), draw.randrange(program.modes), table)
        while len(run) < 12 and options(program, table, run.situation) != ():
            run = run + draw.randrange(len(options(program, table, run.situation)))
        yield run


class TestExamples(Checks):
    def test_the_examples(self):
        run = Run.own(NEED, 0, (0, 0, 0))
        self.assertEqual(run.situations[2], (0, (("main", 0), ("work", 0, 0)), ("fix", 0)))
        self.assertEqual(run.situation, (1, (("main", 0), ("work", 0, 0)), ("fix", 0)))
        self.assertEqual(run.answered, (("main", 0, "need"),))
        self.assertIs(looked_up(NEED, run.situations[2], "need"), None)
        self.assertEqual(run.deepest, 2)
        self.assertEqual((run + 0).situation, (1, (("main", 0),), ("work", 1)))
        self.assertEqual((run.back() + 1).situation, (0, (), ("main", 2)))

    def test_answers_that_raise_their_signal_again(self):
        twice = Run.own(PASS, 0, (0, 0, 1, 0))
        self.assertEqual(twice.situation[1][2:], (("deep", 1, 1), ("pass", 0, 0)))
        self.assertEqual(twice.answered, (("deep", 0, "ask"), ("deep", 0, "ask")))
        self.assertEqual((twice + 0).situation, (0, (), "ask"))
        self.assertEqual([twice.deepest, (twice + 0).deepest, (twice + 0).has_ended], [4, 4, True])


class TestRun(Checks):
    def test_no_steps(self):
        for run in (Run(NEED, "work", 1, EMPTY), Run.of(NEED, "work", 1, EMPTY, ())):
            self.assertEqual([run.program, run.called, run.table, run.choices], [NEED, "work", EMPTY, ()])
            self.assertEqual([run.situation, run.situations], [(1, (), ("work", 0)), ((1, (), ("work", 0)),)])
            self.assertEqual([run.mode, run.has_ended, run.deepest, run.answered, len(run)], [1, False, 0, (), 0])
            self.assertEqual(str(run), "run of 0 steps, 0 answered")

    def test_own(self):
        run = Run.own(NEED, 0, (0,))
        self.assertEqual([run.called, run.table, run.choices, run.mode], ["main", EMPTY, (0,), 0])
        self.assertEqual(run, Run(NEED, "main", 0, EMPTY, 0))

    def test_each_situation_is_an_option_of_the_one_before(self):
        for program in (NEED, PASS, NEST, *programs(21, 60)):
            for run in drawn(program, 3, 4):
                self.assertEqual(len(run.situations), len(run) + 1)
                self.assertEqual(run.situations[0], (run.situations[0][0], (), (run.called, 0)))
                for at, choice in enumerate(run.choices):
                    behind = options(program, run.table, run.situations[at])
                    self.assertEqual(behind[choice], run.situations[at + 1])
                self.check_told(run)

    def check_told(self, run):
        self.assertEqual(run.situation, run.situations[-1])
        self.assertEqual(run.mode, run.situation[0])
        self.assertIs(run.has_ended, run.situation[2] is None or isinstance(run.situation[2], str))
        self.assertEqual(run.deepest, max(len(situation[1]) for situation in run.situations))
        self.assertEqual(run.answered, answers_begun(run))
        self.assertEqual(str(run), f"run of {len(run.choices)} steps, {len(run.answered)} answered")
        first = run.situations[0][0]
        self.assertEqual(run, Run(run.program, run.called, first, run.table, *run.choices))
        self.assertEqual(run, Run.of(run.program, run.called, first, run.table, run.choices))

    def test_left_and_escaped(self):
        self.assertEqual(Run(NEED, "fix", 1, EMPTY, 0).situation, (1, (), None))
        run = Run(NEED, "work", 0, EMPTY, 0)
        self.assertEqual([run.situation, run.has_ended, run.mode], [(0, (), "need"), True, 0])
        self.refuse(InvalidOperation, run.__add__, 0)

    def test_the_table_counts(self):
        self.refuse(InvalidRun, Run, NEED, "work", 0, EMPTY, 1)
        self.assertEqual(Run(NEED, "work", 0, ((1,), ()), 1).situation, (1, (), ("work", 1)))

    def test_equal(self):
        run = Run(NEED, "work", 0, ((1,), ()), 1)
        same = Run(Program(2, (0,), ("need",), *NEED.procedures), "work", 0, ((1,), ()), 1)
        self.assertTrue(run == same and not run != same)
        others = [
            Run(NEED.with_starts((1,)), "work", 0, ((1,), ()), 1), Run(NEED, "work", 1, ((1,), (1,)), 1),
            Run(NEED, "work", 0, ((1,), (0,)), 1), Run(NEED, "work", 0, ((1,), ()), 0), run + 0, run.back(),
        ]
        for other in others:
            self.assertFalse(run == other)
            self.assertTrue(run != other)
        self.assertFalse(Run(NEED, "work", 0, EMPTY) == Run(NEED, "work", 1, EMPTY))
        self.assertFalse(Run(NEED, "work", 0, EMPTY) == Run(NEED, "main", 0, EMPTY))
        for value in ODD + BOOLS + [0, (), (1,), FIX, run.situations]:
            self.assertFalse(run == value)
            self.assertTrue(run != value)

    def test_cannot_be_iterated_over(self):
        with self.assertRaises(TypeError):
            iter(Run.own(NEED, 0, (0,)))

    def test_a_run_does_not_change(self):
        run = Run.own(NEED, 0, (0, 0, 0))
        told = [run.choices, run.situations, str(run)]
        self.assertEqual([len(run + 0), len(run.back(many=3)), len(run)], [4, 0, 3])
        for call in (lambda: run + 9, lambda: run.back(many=4)):
            with self.assertRaises((InvalidOperation, InvalidNumber)):
                call()
        self.assertEqual([run.choices, run.situations, str(run)], told)
        for name in ("program", "called", "table", "choices", "situation", "situations", "mode", "has_ended"):
            with self.assertRaises(AttributeError):
                setattr(run, name, None)


class TestSteps(Checks):
    def test_one_step_more(self):
        for program in (NEED, NEST, *programs(22, 30)):
            for run in drawn(program, 4, 3):
                behind = options(program, run.table, run.situation)
                for index, situation in enumerate(behind):
                    more = run + index
                    self.assertEqual(more.choices, run.choices + (index,))
                    self.assertEqual(more.situations, run.situations + (situation,))
                    self.assertEqual([more.program, more.called, more.table], [program, run.called, run.table])
                    self.assertEqual(more.back(), run)
                for wrong in (len(behind), -1, -len(behind), 10 ** 39):
                    self.refuse(InvalidOperation, run.__add__, wrong)

    def test_no_index(self):
        run = Run.own(NEED, 0, (0,))
        for wrong in ODD + BOOLS + ["0", (0,), (), [0], {0: 0}, FIX, run, 2]:
            self.refuse(InvalidOperation, run.__add__, wrong)
            with self.assertRaises(InvalidOperation):
                run + wrong

    def test_back(self):
        run = Run.own(NEED, 0, (0, 0, 0, 0, 0))
        self.assertEqual(run.back(), Run.own(NEED, 0, (0, 0, 0, 0)))
        for many in range(6):
            self.assertEqual(run.back(many=many), Run.own(NEED, 0, (0,) * (5 - many)))
            self.assertEqual(run.back(many=many).situations, run.situations[:6 - many])

    def test_no_number(self):
        run = Run.own(NEED, 0, (0, 0))
        for many in ODD + BOOLS + [3, -1, "1", (1,), (), FIX, run]:
            self.assertIs(self.refuse(InvalidNumber, run.back, many=many).value, many)
        self.refuse(InvalidNumber, Run.own(NEED, 0, ()).back)
        with self.assertRaises(TypeError):
            run.back(1)


class TestThousandSteps(Checks):
    def test_1000_steps(self):
        run = Run.own(TURN, 0, (0,) * 1000)
        self.assertEqual([len(run), len(run.situations), run.has_ended], [1000, 1001, False])
        self.assertEqual(self.refuse(TooMany, run.__add__, 0).limit, 1000)
        self.assertEqual(len(Run.own(TURN, 0, (0,) * 999) + 1), 1000)
        self.assertEqual(run.back() + 0, run)

    def test_1001_steps(self):
        for call in (
            lambda choices: Run(TURN, "turn", 0, (), *choices), lambda choices: Run.own(TURN, 0, choices),
            lambda choices: Run.of(TURN, "turn", 0, (), choices),
        ):
            self.assertEqual(self.refuse(TooMany, call, (0,) * 1001).limit, 1000)
            self.assertEqual(self.refuse(TooMany, call, (0,) * 1500).limit, 1000)

    def test_the_limit_comes_last(self):
        run = Run.own(TURN, 0, (0,) * 1000)
        for wrong in (2, -1, None, "0", True):
            self.refuse(InvalidOperation, run.__add__, wrong)
            self.refuse(InvalidRun, Run.own, TURN, 0, (0,) * 1000 + (wrong,))
            self.refuse(InvalidRun, Run.own, TURN, 0, (0,) * 1200 + (wrong,))
        self.refuse(InvalidRun, Run.own, TURN, 0, (1,) + (0,) * 1000)
        self.refuse(InvalidRun, Run.own, TURN, 0, [0] * 1001)

    def test_a_deep_run(self):
        run = Run.own(PASS, 0, (0,) * 900)
        self.assertEqual([run.deepest, len(run.situation[1]), run.answered], [900, 900, ()])
        more = Run.own(PASS, 0, (0,) * 500 + (1,) + (0,) * 499)
        self.assertEqual([len(more.answered), more.deepest], [500, 1000])
        self.assertEqual(more.situation[1][-1], ("pass", 0, 0))
        self.assertIs(looked_up(PASS, more.situation, "ask"), None)
        self.refuse(TooMany, more.__add__, 0)


class TestErrors(Checks):
    def test_errors_in_their_order(self):
        wrong = [value for value in ODD if not isinstance(value, tuple)] + BOOLS + [
            0, "0", [0], {0: 0}, (1,), (2,), (-1,), (True,), (None,), ("0",), ((0,),), (0, 5), FIX, (FIX,), ([],),
        ]
        rows = [
            (NEED, InvalidProgram, None, NO_PROGRAMS), ("main", UnknownName, "name", NO_NAMES),
            (0, InvalidMode, None, NO_MODES), (EMPTY, InvalidTable, None, NO_TABLES),
        ]
        self.check_order(Run, *rows)
        self.check_order(Run.of, *rows, ((0, 0), InvalidRun, None, wrong))
        starts = NO_MODES + [1]
        self.check_order(Run.own, rows[0], (0, InvalidMode, None, starts), ((0, 0), InvalidRun, None, wrong))

    def test_choices_that_are_none(self):
        beginnings = [(value, UnknownName) for value in (None, "gone")] + [("main", InvalidRun)]
        for name, error in beginnings:
            for choice in ODD + BOOLS + [1, 2, "0", (0,), FIX]:
                self.refuse(error, Run, NEED, name, 0, EMPTY, choice)
                self.refuse(error, Run, NEED, name, 0, EMPTY, 0, 0, choice if choice != 1 else 7)
                self.refuse(error, Run.of, NEED, name, 0, EMPTY, (choice,))

    def test_what_is_no_tuple_is_wrong_where_choices_stand(self):
        self.refuse(InvalidTable, Run.of, NEED, "main", 0, (), [0])
        self.refuse(InvalidRun, Run.of, NEED, "main", 0, EMPTY, [0])
        self.refuse(InvalidMode, Run.own, NEED, 1, [0])

    def test_starts(self):
        made = NEED.with_starts((1,))
        self.assertEqual(Run.own(made, 1, ()).mode, 1)
        self.refuse(InvalidMode, Run.own, made, 0, ())
        self.assertEqual(Run.own(made, 1, ()).table, empty_table(made))


if __name__ == "__main__":
    unittest.main()
