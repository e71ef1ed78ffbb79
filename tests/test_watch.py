"""Promises [0.21], [10.1] and stage 10: who answers."""

import unittest
from unittest import mock

from answeredabove.ask.ends import outcome
from answeredabove.ask.watch import Answers, answerers, run_with, watched
from answeredabove.base.programs import Procedure, Program
from answeredabove.errors import InvalidMode, InvalidProgram, TooMany, UnknownSite
from answeredabove.know.does import does, inner_table, reached
from answeredabove.know.tables import empty_table
from answeredabove.run.runs import Run
from tests.crowds import MODES, ROUND, SIGNALS, branching, set_out
from tests.helpers import BOOLS, FIX, NEED, NO_PROGRAMS, ODD, PASS, Checks
from tests.samples import lively, programs
from tests.test_does import MIXED
from tests.test_ends import TWO
from tests.test_situations import NEST
from tests.test_tables import NO_MODES
from tests.wander import Wander

EMPTY = ((), ())
ANSWER = ("main", 0, "need")
NO_RAISES = ODD + BOOLS + [
    "work", (), ("work", 1), ("work", 2), ("work", -2), ("work", False), ("main", 0), ("fix", 0), ["work", 0], (FIX, 0),
    ("work", 0, "need"), ("deep", 1), ("work", "0"), ("work", FIX), ("gone", 0), ("work", (0,)), ("work", 0, 0),
]
NO_ANSWERS = ODD + BOOLS + [
    "need", (), ("main", 0), ("main", 0, "ask"), ("main", 1, "need"), ("main", False, "need"), ("main", 3, "need"),
    ("work", 0, "need"), ("gone", 0, "need"), ["main", 0, "need"], ("main", 0, "need", 0), ("main", 0, ("need",)),
    ("main", "0", "need"), (FIX, 0, "need"), ("main", 0, FIX), ("main", 0, ["need"]), (["main"], 0, "need"), (ANSWER,),
    ("main", -3, "need"), ("main", 0, None),
]
# The answer raises its signal again in 0, which the outer call answers; in 1 it never ends.
AGAIN = Program(
    2, (0, 1), ("ask",),
    Procedure("main", 2, ("call", 0, 1, "mid", (0, 1), (("ask", "ok", ()),)), ("leave", 1, (0, 1))),
    Procedure("mid", 2, ("call", 0, 1, "low", (0, 1), (("ask", "by", ((1, 0),)),)), ("leave", 1, (0, 1))),
    Procedure("low", 2, ("raise", 0, 1, "ask", (0, 1)), ("leave", 1, (0, 1))),
    Procedure("by", 2, ("raise", 0, 1, "ask", (0,)), ("leave", 1, (0,))),
    Procedure("ok", 1, ("leave", 0, (0, 1))),
    Procedure("gone", 2, ("call", 0, 1, "low", (0, 1), (("ask", "ok", ()),))),
)
# Two calls of one procedure answer the same signal by the same procedure.
BOTH = Program(
    1, (0,), ("ask",),
    Procedure("main", 3, ("call", 0, 1, "low", (0,), (("ask", "ok", ()),)),
              ("call", 1, 2, "low", (0,), (("ask", "ok", ()),)), ("leave", 2, (0,))),
    Procedure("low", 2, ("raise", 0, 1, "ask", (0,)), ("leave", 1, (0,))), Procedure("ok", 1, ("leave", 0, (0,))),
)
BARE = Program(2, (0, 1), (), Procedure("p", 2, ("go", 0, 1, ((0, 1),)), ("leave", 1, (1,))))
WHEEL = Procedure(
    "wheel", 1,
    *[("call", 0, 0, "wheel", MODES, (("aa", "never", ()),)) for _ in range(4)],
    *[("call", 0, 0, "wheel", MODES, (("bb", "never", ()),)) for _ in range(4)],
    *[("call", 0, 0, "wheel", MODES, (("cc", "never", ()),)) for _ in range(3)],
)
# In each mode the wheel is watched by one of 5, 5 and 4 calls, or none.
FOUR_HUNDRED = Program(4, MODES, SIGNALS, WHEEL, Procedure("never", 1))
ONE_MORE = Program(
    4, (0,), SIGNALS,
    Procedure("root", 1, ("go", 0, 0, ROUND), ("call", 0, 0, "wheel", MODES, ())), WHEEL, Procedure("never", 1),
)
SAMPLES = [NEED, PASS, NEST, MIXED, TWO, AGAIN, BOTH, BARE, *programs(81, 60), *lively(82, 60), *lively(83, 15, 5, 3)]
KEPT = []


def long_way(steps):
    """A program the only own run of which begins an answer with just so many steps, which are many and even."""
    # A call of `p` takes 2 steps, one of `q` 12, and one of `r` 62, of `s` 312 and of `t` 1562.
    chain = [Procedure("p", 1, ("leave", 0, (0,)))]
    for name, below in zip("qrst", "pqrs"):
        calls = [("call", at, at + 1, below, (0,), ()) for at in range(5)]
        chain.append(Procedure(name, 6, *calls, ("leave", 5, (0,))))
    calls, left = [], steps - 4
    for name, many in (("s", 312), ("r", 62), ("q", 12), ("p", 2)):
        calls += [name] * (left // many)
        left %= many
    ways = [calls[at:at + 5] for at in range(0, len(calls), 5)]
    assert left == 0 and len(ways) <= 2
    first, other = [[("call", at, at + 1, name, (0,), ()) for at, name in enumerate(way)] for way in (ways + [[]])[:2]]
    return Program(
        1, (0,), ("ask",),
        Procedure("main", 6, *first, ("call", len(first), 5, "other", (0,), (("ask", "p", ()),)), ("leave", 5, (0,))),
        Procedure("other", 6, *other, ("call", len(other), 5, "low", (0,), ())),
        Procedure("low", 2, ("go", 0, 1, ((0, 0),)), ("raise", 1, 0, "ask", (0,))), *chain,
    )


def by_the_words(program):
    """The watched contexts, and how answers begin and are left, by the words of [10.1]."""
    none = ((),) * len(program.signals)
    found = {(program.main, start, empty_table(program), none) for start in program.starts}
    waiting, begun, left = list(found), set(), set()
    for name, mode, table, watch in waiting:
        come = reached(program, name, mode, table)
        for index, move in enumerate(program[name].moves):
            for new in [each for point, each in come if move[0] == "call" and point == move[1] and each in move[4]]:
                answers = {signal: by for signal, by, _ in move[5]}
                inner = inner_table(program, table, (name, index))
                inside = tuple((name, index) if signal in answers else each
                               for signal, each in zip(program.signals, watch))
                more = [(move[3], new, inner, inside)]
                for signal, raised in does(program, move[3], new, inner)[1]:
                    if signal in answers:
                        more.append((answers[signal], raised, table, watch))
                        begun.add(((name, index, signal), raised))
                        for end in does(program, answers[signal], raised, table)[0]:
                            left.add(((name, index, signal), raised, end))
                for each in more:
                    if each not in found:
                        found.add(each)
                        waiting.append(each)
    return found, begun, left


def gone_through():
    """The samples, each with what the words say of it, and what its runs show; made once."""
    if not KEPT:
        KEPT.extend((program, by_the_words(program), Wander(program)) for program in SAMPLES)
    return KEPT


def unwinds_of(program, answer):
    """The modes in which an answer unwinds."""
    for signal, _, unwinds in program.move(answer[:2])[5]:
        if signal == answer[2]:
            return [mode for mode, _ in unwinds]


class TestWatched(Checks):
    def test_the_examples(self):
        self.assertEqual(len(watched(NEED)), 3)
        inner = ((1,), (1,))
        self.assertEqual(watched(NEED), (
            ("fix", 0, EMPTY, ((),)), ("main", 0, EMPTY, ((),)), ("work", 0, inner, (("main", 0),)),
        ))
        self.assertEqual(watched(PASS), (
            ("deep", 0, ((),), ((),)), ("deep", 0, ((),), (("deep", 0),)), ("pass", 0, ((),), ((),)),
            ("pass", 0, ((),), (("deep", 0),)),
        ))

    def test_watches_that_differ_while_context_and_table_are_the_same(self):
        self.assertEqual(watched(BOTH), (
            ("low", 0, ((0,),), (("main", 0),)), ("low", 0, ((0,),), (("main", 1),)), ("main", 0, ((),), ((),)),
            ("ok", 0, ((),), ((),)),
        ))

    def test_an_answer_that_raises_its_signal_again(self):
        inner = ((0,), (1,))
        self.assertIn(("by", 0, inner, (("main", 0),)), watched(AGAIN))
        self.assertIn(("by", 1, inner, (("main", 0),)), watched(AGAIN))
        self.assertIn(("low", 1, ((0,), ()), (("mid", 0),)), watched(AGAIN))
        self.assertIn(("ok", 0, EMPTY, ((),)), watched(AGAIN))
        self.assertNotIn("gone", [each[0] for each in watched(AGAIN)])

    def test_no_signals_and_no_calls(self):
        self.assertEqual(watched(BARE), (("p", 0, (), ()), ("p", 1, (), ())))

    def test_by_the_words(self):
        for program, words, _ in gone_through():
            self.assertEqual(watched(program), tuple(sorted(words[0])))

    def test_against_runs(self):
        whole = 0
        for program, _, seen in gone_through():
            told = {(name, mode, watch) for name, mode, _, watch in watched(program)}
            self.assertLessEqual(seen.entered, told)
            if seen.whole:
                whole += 1
                self.assertEqual(seen.entered, told)
        self.assertGreater(whole, 40)

    def test_many_watched_contexts(self):
        self.assertEqual(len(watched(FOUR_HUNDRED)), 400)
        for call in (watched, Answers):
            self.assertEqual(self.refuse(TooMany, call, ONE_MORE).limit, 400)
        self.assertEqual(outcome(ONE_MORE), ((), ()))
        self.assertEqual(len(Answers(FOUR_HUNDRED)), 0)
        answer = ONE_MORE.answers[0]
        self.assertEqual(self.refuse(TooMany, run_with, ONE_MORE, answer, 0).limit, 400)
        self.assertIsNone(run_with(FOUR_HUNDRED, answer, 0))
        more = ONE_MORE.with_procedure(Procedure("low", 1, ("raise", 0, 0, "aa", (0,))))
        self.assertEqual(self.refuse(TooMany, answerers, more, ("low", 0)).limit, 400)
        fewer = FOUR_HUNDRED.with_procedure(Procedure("low", 1, ("raise", 0, 0, "aa", (0,))))
        self.assertEqual(answerers(fewer, ("low", 0)), ())

    def test_just_where_there_are_more(self):
        for program in SAMPLES[::3]:
            many = len(watched(program))
            with mock.patch("answeredabove.ask.lookouts.MOST_WATCHED", many):
                self.assertEqual(len(watched(program)), many)
            with mock.patch("answeredabove.ask.lookouts.MOST_WATCHED", many - 1):
                self.assertEqual(self.refuse(TooMany, watched, program).limit, many - 1)

    def test_many_tables(self):
        for made in (set_out(9), branching(""), branching("answers call main")):
            self.assertEqual(self.refuse(TooMany, watched, made).limit, 200)
            self.assertEqual(self.refuse(TooMany, Answers, made).limit, 200)
            self.assertEqual(self.refuse(TooMany, answerers, made, made.raises[0]).limit, 200)
            self.assertEqual(self.refuse(TooMany, run_with, made, made.answers[0], 0).limit, 200)
            self.refuse(UnknownSite, answerers, made, made.calls[0])
            self.refuse(UnknownSite, run_with, made, ("main", 0), 0)
            self.refuse(InvalidMode, run_with, made, made.answers[0], 4)

    def test_no_program(self):
        for value in NO_PROGRAMS:
            self.refuse(InvalidProgram, watched, value)


class TestAnswerers(Checks):
    def test_the_examples(self):
        self.assertEqual(answerers(NEED, ("work", 0)), ((0, ("main", 0)),))
        for site in (("deep", 1), ("pass", 0)):
            self.assertEqual(answerers(PASS, site), ((0, ()), (0, ("deep", 0))))

    def test_who_answers_does_not_hang_on_the_site(self):
        self.assertEqual(answerers(AGAIN, ("low", 0)), ((0, ("mid", 0)), (1, ("mid", 0))))
        self.assertEqual(answerers(AGAIN, ("by", 0)), ((0, ("main", 0)),))
        self.assertEqual(answerers(BOTH, ("low", 0)), ((0, ("main", 0)), (0, ("main", 1))))

    def test_nothing_answers(self):
        bare = NEED.without_answers(NEED.answers)
        self.assertEqual(answerers(bare, ("work", 0)), ((0, ()),))
        self.assertEqual(answerers(NEED.with_starts((1,)), ("work", 0)), ())

    def test_by_the_words(self):
        for program, (found, _, _), _ in gone_through():
            for site in program.raises:
                _, point, _, signal, modes = program.move(site)
                told = set()
                for name, mode, table, watch in found:
                    if name == site[0]:
                        at = program.signals.index(signal)
                        told |= {(new, watch[at]) for here, new in reached(program, name, mode, table)
                                 if here == point and new in modes}
                self.assertEqual(answerers(program, site), tuple(sorted(told)))

    def test_against_runs(self):
        for program, _, seen in gone_through():
            told = {(site, mode, call) for site in program.raises for mode, call in answerers(program, site)}
            self.assertLessEqual(seen.raised, told)
            if seen.whole:
                self.assertEqual(seen.raised, told)

    def test_errors_in_their_order(self):
        self.check_order(answerers, (NEED, InvalidProgram, None, NO_PROGRAMS),
                         (("work", 0), UnknownSite, "site", NO_RAISES))


class TestAnswers(Checks):
    def test_the_examples(self):
        answers = Answers(NEED)
        self.assertEqual(answers[ANSWER], (0,))
        self.assertEqual([answers.resumed(ANSWER), answers.unwound(ANSWER)], [((0, 1),), ((0, 0),)])
        self.assertEqual([answers.idle, str(answers)], [(), "1 of 1 answers begin"])
        self.assertEqual(answers.program, NEED)

    def test_an_answer_that_begins_and_never_ends(self):
        answers = Answers(AGAIN)
        by = ("mid", 0, "ask")
        self.assertEqual(answers.begun(by), (0, 1))
        self.assertEqual([answers.resumed(by), answers.unwound(by)], [((0, 0),), ()])
        self.assertEqual(answers[("main", 0, "ask")], (0,))
        self.assertEqual(answers.resumed(("main", 0, "ask")), ((0, 0),))

    def test_answers_of_calls_that_are_never_come_to(self):
        answers = Answers(AGAIN)
        gone = ("gone", 0, "ask")
        self.assertEqual(answers.idle, (gone,))
        self.assertEqual([answers[gone], answers.begun(gone), answers.resumed(gone), answers.unwound(gone)], [()] * 4)
        self.assertEqual([len(answers), str(answers)], [2, "2 of 3 answers begin"])
        self.assertNotIn(gone, answers)
        self.assertIn(("main", 0, "ask"), answers)

    def test_an_inner_answer_passes_over_an_outer_one(self):
        answers = Answers(TWO)
        self.assertEqual(answers.idle, (("main", 0, "ask"),))
        self.assertEqual(str(answers), "1 of 2 answers begin")

    def test_no_answers(self):
        for program in (BARE, NEED.without_answers(NEED.answers)):
            answers = Answers(program)
            self.assertEqual([len(answers), answers.idle, str(answers)], [0, (), "0 of 0 answers begin"])

    def test_by_the_words(self):
        begins = 0
        for program, (_, begun, left), _ in gone_through():
            answers = Answers(program)
            for answer in program.answers:
                modes = tuple(sorted(mode for each, mode in begun if each == answer))
                begins += len(modes)
                self.assertEqual([answers.begun(answer), answers[answer]], [modes, modes])
                self.assertIs(answer in answers, modes != ())
                self.assertIs(answer in answers.idle, modes == ())
                ends = sorted((mode, end) for each, mode, end in left if each == answer)
                unwinds = unwinds_of(program, answer)
                self.assertEqual(answers.resumed(answer), tuple(each for each in ends if each[1] not in unwinds))
                self.assertEqual(answers.unwound(answer), tuple(each for each in ends if each[1] in unwinds))
            self.assertEqual(len(answers), len({answer for answer, _ in begun}))
            self.assertEqual(answers.idle, tuple(each for each in program.answers if each not in answers))
            self.assertEqual(str(answers), f"{len(answers)} of {len(program.answers)} answers begin")
        self.assertGreater(begins, 100)

    def test_against_runs(self):
        for program, _, seen in gone_through():
            answers = Answers(program)
            told = {(answer, mode) for answer in program.answers for mode in answers[answer]}
            left = {(answer, *each) for answer in program.answers
                    for each in answers.resumed(answer) + answers.unwound(answer)}
            self.assertLessEqual(seen.begun, told)
            self.assertLessEqual(seen.left, left)
            if seen.whole:
                self.assertEqual([seen.begun, seen.left], [told, left])

    def test_an_answer_that_never_begins_can_be_left_out(self):
        idle = 0
        for program in SAMPLES:
            gone = Answers(program).idle
            idle += len(gone)
            self.assertEqual(outcome(program.without_answers(gone)), outcome(program))
        self.assertGreater(idle, 50)

    def test_equal(self):
        again = Program(2, (0,), ("need",), *NEED.procedures)
        self.assertEqual(Answers(NEED), Answers(again))
        odd = [value for value in ODD if not isinstance(value, Answers)]
        for value in odd + BOOLS + [NEED, 0, (), Answers(PASS), Answers(NEED.with_starts((0, 1))), str(Answers(NEED))]:
            self.assertIs(Answers(NEED) == value, False)
            self.assertIs(Answers(NEED) != value, True)
            self.assertIs(value in Answers(NEED), False)

    def test_not_iterated(self):
        for call in (iter, list, tuple):
            self.refuse(TypeError, call, Answers(NEED))

    def test_wrong_answers(self):
        answers = Answers(NEED)
        for call in (answers.begun, answers.resumed, answers.unwound, answers.__getitem__):
            for value in NO_ANSWERS:
                self.assertIs(self.refuse(UnknownSite, call, value).site, value)
        for value in NO_ANSWERS:
            self.assertIs(value in answers, False)
        for value in NO_PROGRAMS:
            self.refuse(InvalidProgram, Answers, value)


class TestRunWith(Checks):
    def test_the_examples(self):
        self.assertEqual(run_with(NEED, ANSWER, 0).choices, (0, 0))
        self.assertIsNone(run_with(NEED, ANSWER, 1))

    def test_each_answer_in_each_mode(self):
        for program in SAMPLES:
            answers = Answers(program)
            for answer in program.answers:
                for mode in range(program.modes):
                    run = run_with(program, answer, mode)
                    self.assertIs(run is not None, mode in answers[answer])
                    if run is not None:
                        self.check(program, run, answer, mode)

    def check(self, program, run, answer, mode):
        self.assertEqual(run, Run.own(program, run.situations[0][0], run.choices))
        self.assertEqual(run.answered, run.back().answered + (answer,))
        self.assertEqual(run.back().mode, mode)

    def test_long_runs(self):
        for steps in (500, 990, 1000):
            made = long_way(steps)
            run = run_with(made, ("main", made.answers[0][1], "ask"), 0)
            self.check(made, run, made.answers[0], 0)
            self.assertEqual(len(run), steps)
        for steps in (1002, 1400):
            made = long_way(steps)
            self.assertEqual(self.refuse(TooMany, run_with, made, made.answers[0], 0).limit, 1000)
            self.assertEqual(Answers(made)[made.answers[0]], (0,))

    def test_errors_in_their_order(self):
        self.check_order(run_with, (NEED, InvalidProgram, None, NO_PROGRAMS),
                         (ANSWER, UnknownSite, "site", NO_ANSWERS), (0, InvalidMode, None, NO_MODES))


if __name__ == "__main__":
    unittest.main()
