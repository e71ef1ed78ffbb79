"""Promise [9.1] and stage 9: what can come; and what [0.23] and [0.24] say of it."""

import unittest

from answeredabove.ask.ends import can_end, end_paper, is_end, is_end_paper, outcome
from answeredabove.base.programs import Procedure, Program
from answeredabove.errors import InvalidOperation, InvalidProgram, TooMany
from answeredabove.know.books import book_of, is_book
from answeredabove.know.derivations import derivation_of, is_derivation, run_of
from answeredabove.know.does import does, inner_table
from answeredabove.know.tables import empty_table, full_table
from answeredabove.run.runs import Run
from tests.crowds import branching, set_out
from tests.helpers import BOOLS, FIX, FULL, NEED, NO_PROGRAMS, ODD, PASS, Checks, spoiled
from tests.oracle import ends_of_runs
from tests.samples import programs, tables
from tests.test_derivations import EMPTY, RESUMED, STAYED, UNWOUND
from tests.test_does import MIXED
from tests.test_situations import NEST

# Two calls answer the same signal; the outer one's answer never begins.
TWO = Program(
    1, (0,), ("ask",),
    Procedure("main", 2, ("call", 0, 1, "mid", (0,), (("ask", "ok", ()),)), ("leave", 1, (0,))),
    Procedure("mid", 2, ("call", 0, 1, "low", (0,), (("ask", "ok", ()),)), ("leave", 1, (0,))),
    Procedure("low", 2, ("raise", 0, 1, "ask", (0,)), ("leave", 1, (0,))), Procedure("ok", 1, ("leave", 0, (0,))),
)
NO_ENDS = ODD + BOOLS + [
    0, (), "left", ("left",), ("left", 2), ("left", 0, 0), ("left", "need", 0), ("unanswered", 0),
    ("unanswered", "need"), ("unanswered", "need", 2), ("unanswered", "ask", 0), ("unanswered", 0, "need"), FIX,
    ("unanswered", "need", 0, 0), ["left", 0], ("right", 0), ("answered", "need", 0), ("left", (0,)), ("left", None),
    ("left", True), ("unanswered", "need", False), ("unanswered", ("need",), 0), ("unanswered", "main", 0), {0: 0},
]


def ends(program):
    """All ends of the program by their form."""
    found = [("left", mode) for mode in range(program.modes)]
    return found + [("unanswered", signal, mode) for signal in program.signals for mode in range(program.modes)]


class TestOutcome(Checks):
    def test_the_examples(self):
        self.assertEqual([outcome(NEED), outcome(PASS)], [((0, 1), ()), ((), (("ask", 0),))])
        self.assertEqual(outcome(NEED.without_answers(NEED.answers)), ((), (("need", 0),)))
        self.assertEqual(outcome(TWO), ((0,), ()))

    def test_all_starts_together(self):
        for program in (NEED, NEST, MIXED, FULL, *programs(61, 100)):
            leaves, escapes = set(), set()
            for start in program.starts:
                one = does(program, program.main, start, empty_table(program))
                self.assertEqual(outcome(program.with_starts((start,))), one)
                leaves |= set(one[0])
                escapes |= set(one[1])
            self.assertEqual(outcome(program), (tuple(sorted(leaves)), tuple(sorted(escapes))))

    def test_against_runs(self):
        for program in (NEED, PASS, NEST, MIXED, TWO, *programs(62, 100)):
            for start in program.starts:
                found = ends_of_runs(program, program.main, start, empty_table(program), 6)
                told = outcome(program.with_starts((start,)))
                self.assertLessEqual(set(found[0]), set(told[0]))
                self.assertLessEqual(set(found[1]), set(told[1]))
                if found[3]:
                    self.assertEqual(found[:2], told)

    def test_no_program(self):
        for value in NO_PROGRAMS:
            self.refuse(InvalidProgram, outcome, value)


class TestEnds(Checks):
    def test_ends(self):
        for program in (NEED, PASS, NEST, FULL):
            for end in ends(program):
                self.assertIs(is_end(program, end), True)

    def test_no_ends(self):
        for value in NO_ENDS:
            self.assertIs(is_end(NEED, value), False, value)
        for end in (("left", 1), ("unanswered", "need", 1)):
            for value in spoiled(end):
                self.assertIs(is_end(NEED, value), False, value)

    def test_no_program(self):
        for value in NO_PROGRAMS:
            for end in (("left", 0), None):
                self.refuse(InvalidProgram, is_end, value, end)


class TestPapers(Checks):
    def test_the_examples(self):
        self.assertIs(can_end(NEED, ("left", 1)), True)
        self.assertEqual(end_paper(PASS, ("unanswered", "ask", 0))[0], "derivation")
        self.assertIs(is_end_paper(NEED, ("left", 0), ("derivation", UNWOUND)), True)
        self.assertIs(is_end_paper(NEED, ("left", 1), ("derivation", UNWOUND)), False)
        self.assertIs(is_end_paper(PASS, ("left", 0), ("book", {})), False)

    def test_exactly_one_kind(self):
        for program in (NEED, PASS, NEST, MIXED, TWO, *programs(63, 150), *programs(64, 20, 6, 4, 3, 3, 9)):
            left, unanswered = outcome(program)
            for end in ends(program):
                paper = end_paper(program, end)
                self.assertIs(type(paper), tuple)
                self.assertIs(is_end_paper(program, end, paper), True)
                comes = end[1] in left if end[0] == "left" else end[1:] in unanswered
                self.assertIs(can_end(program, end), comes)
                self.assertEqual(paper[0], "derivation" if comes else "book")
                if comes:
                    self.check_run(program, end, paper[1])
                    self.assertIs(is_end_paper(program, end, ("book", book_of(program))), False)
                else:
                    self.assertIs(is_book(program, paper[1]), True)

    def check_run(self, program, end, derivation):
        self.assertIs(is_derivation(program, derivation), True)
        run = run_of(program, derivation)
        self.assertEqual(run, Run.own(program, run.situations[0][0], run.choices))
        self.assertEqual(run.situation, (end[-1], (), None if end[0] == "left" else end[1]))

    def test_derivations_of_something_else(self):
        for value, end, right in (
            (UNWOUND, ("left", 0), True), (RESUMED, ("left", 1), True), (UNWOUND + RESUMED, ("left", 1), True),
            (UNWOUND + RESUMED, ("left", 0), False), (RESUMED + UNWOUND, ("left", 0), True), (UNWOUND[:2], ("left", 0), False),
            (UNWOUND[1:], ("left", 0), False), ((STAYED,), ("left", 1), False),
            (UNWOUND[:1], ("unanswered", "need", 0), False),
        ):
            self.assertIs(is_end_paper(NEED, end, ("derivation", value)), right)

    def test_the_start_and_the_table_count(self):
        made = Program(2, (0,), ("s",), Procedure("p", 1, ("leave", 0, (0, 1)), ("raise", 0, 0, "s", (1,))))
        for start in (0, 1):
            for table in (((), ()), ((0,), ())):
                value = ((("leaves", "p", start, table, start), (("leave", 0),)),)
                right = start == 0 and table == ((), ())
                self.assertIs(is_end_paper(made, ("left", start), ("derivation", value)), right)
                self.assertIs(is_end_paper(made.with_starts((0, 1)), ("left", start), ("derivation", value)),
                              table == ((), ()))
        self.assertIs(can_end(made, ("unanswered", "s", 1)), False)
        both = made.with_starts((0, 1))
        self.assertEqual(end_paper(both, ("unanswered", "s", 1)),
                         ("derivation", ((("escapes", "p", 1, ((), ()), "s", 1), (("raise", 1),)),)))

    def test_books_of_something_else(self):
        end = ("unanswered", "need", 0)
        book = book_of(NEED)
        root = ("main", 0, EMPTY)
        self.assertIs(is_end_paper(NEED, end, ("book", book)), True)
        for other, right in (
            ({**book, root: ((0, 1), (("need", 1),))}, True), ({**book, root: ((0, 1), (("need", 0),))}, False),
            ({**book, root: ((0,), ())}, False), ({**book, ("main", 1, EMPTY): ((), (("need", 0),))}, True), ({}, False),
            ({each: book[each] for each in book if each != root}, False),
        ):
            self.assertIs(is_end_paper(NEED, end, ("book", other)), right)
        more = NEED.with_starts((0, 1))
        self.assertIs(is_end_paper(more, end, ("book", book)), False)
        self.assertIs(is_end_paper(more, end, ("book", {**book, ("main", 1, EMPTY): ((), ())})), True)
        self.assertIs(is_end_paper(more, end, ("book", {**book, ("main", 1, EMPTY): ((), (("need", 0),))})), False)
        self.assertIs(is_end_paper(more, ("left", 1), ("book", book_of(more))), False)

    def test_other_values(self):
        book = book_of(NEED)
        for end in (("left", 0), ("unanswered", "need", 0)):
            for value in ODD + BOOLS + [
                0, (), ("derivation",), ("book",), ("derivation", book), ("book", UNWOUND), ("derivation", None),
                ("book", None), ["derivation", UNWOUND], ("derivation", UNWOUND, 0), (UNWOUND, "derivation"), UNWOUND,
                ("paper", UNWOUND), ("paper", book), (None, book), book, ("derivation", ()), ("book", ()), FIX,
                ("book", [book]), (("book",), book), ("derivation", list(UNWOUND)),
            ]:
                self.assertIs(is_end_paper(NEED, end, value), False, value)

    def test_many_tables(self):
        self.assertEqual(end_paper(set_out(8), ("left", 3))[0], "book")
        self.assertEqual(outcome(set_out(8)), ((0,), ()))
        for made in (set_out(9), branching(""), branching("answers call main")):
            self.assertEqual(self.refuse(TooMany, outcome, made).limit, 200)
            for end in ends(made)[3:5]:
                for call in (can_end, end_paper):
                    self.refuse(TooMany, call, made, end)
        made = set_out(9)
        value = ((("leaves", "root", 0, empty_table(made), 0), (("leave", 10),)),)
        self.assertIs(is_end_paper(made, ("left", 0), ("derivation", value)), False)

    def test_a_paper_can_be_judged_whatever_its_tables(self):
        made = set_out(9)
        inner, empty = ((),) * 12, empty_table(made)
        value = (
            (("leaves", "root", 0, inner, 0), (("leave", 10),)),
            (("leaves", "main", 0, empty, 0), (("call", 0, inner, 0), ("leave", 1))),
        )
        self.assertIs(is_end_paper(made, ("left", 0), ("derivation", value)), True)

    def test_errors_in_their_order(self):
        rows = (NEED, InvalidProgram, None, NO_PROGRAMS), (("left", 0), InvalidOperation, None, NO_ENDS)
        self.check_order(can_end, *rows)
        self.check_order(end_paper, *rows)
        for value in (("derivation", UNWOUND), None):
            self.check_order(lambda program, end: is_end_paper(program, end, value), *rows)
        self.refuse(InvalidOperation, can_end, branching(""), ("left", 4))
        self.refuse(InvalidOperation, end_paper, branching(""), ("unanswered", "need", 0))


class TestWhatIsTrue(Checks):
    """What [0.23] calls true."""

    def test_tables_come_round(self):
        for program in programs(65, 60, modes=2, signals=2):
            many = 2 ** (len(program.signals) * program.modes ** 2)
            for site in program.calls:
                table = tables(1, program, 2)[1]
                seen = [table]
                while inner_table(program, seen[-1], site) not in seen:
                    seen.append(inner_table(program, seen[-1], site))
                self.assertLessEqual(len(seen), many)

    def test_an_answer_that_never_begins(self):
        self.assertEqual(outcome(TWO.without_answers((("main", 0, "ask"),))), outcome(TWO))

    def test_a_procedure_from_which_nothing_escapes(self):
        for program in (NEED, NEST, MIXED, *programs(66, 60)):
            for name in program.names:
                for mode in range(program.modes):
                    told = does(program, name, mode, empty_table(program))
                    if told[1] == ():
                        for table in [full_table(program), *tables(2, program, 3)]:
                            self.assertEqual(does(program, name, mode, table), told)

    def test_fewer_starts(self):
        for program in programs(67, 60):
            for start in program.starts:
                fewer, all_starts = outcome(program.with_starts((start,))), outcome(program)
                self.assertLessEqual(set(fewer[0]), set(all_starts[0]))
                self.assertLessEqual(set(fewer[1]), set(all_starts[1]))


class TestWhatIsNotTrue(Checks):
    """What [0.24] calls not true is not taken for granted."""

    def test_more_answers_can_leave_more_signals_unanswered(self):
        made = Program(
            1, (0,), ("ask", "stop"),
            Procedure("main", 2, ("call", 0, 1, "low", (0,), (("ask", "ok", ()),)), ("leave", 1, (0,))),
            Procedure("low", 2, ("raise", 0, 1, "ask", (0,)), ("raise", 1, 1, "stop", (0,))),
            Procedure("ok", 1, ("leave", 0, (0,))),
        )
        self.assertEqual(outcome(made), ((), (("stop", 0),)))
        self.assertEqual(outcome(made.without_answers(made.answers)), ((), (("ask", 0),)))
        other = made.with_procedure(Procedure("ok", 1, ("raise", 0, 0, "ask", (0,)), ("raise", 0, 0, "stop", (0,))))
        self.assertEqual(outcome(other), ((), (("ask", 0), ("stop", 0))))

    def test_every_call_answers_every_signal_and_one_stays_unanswered(self):
        self.assertEqual(outcome(PASS), ((), (("ask", 0),)))

    def test_each_of_two_answers_can_be_left_out_but_not_both(self):
        for answer in TWO.answers:
            self.assertEqual(outcome(TWO.without_answers((answer,))), outcome(TWO))
        self.assertEqual(outcome(TWO.without_answers(TWO.answers)), ((), (("ask", 0),)))

    def test_an_answer_that_never_unwinds_is_no_call_at_the_raise(self):
        # What the answer raises is answered outside of the call; what a procedure raises that is called, by the call.
        answered = Program(
            2, (0,), ("ask",),
            Procedure("main", 2, ("call", 0, 1, "low", (0,), (("ask", "by", ()),)), ("leave", 1, (1,))),
            Procedure("low", 2, ("raise", 0, 1, "ask", (0,)), ("leave", 1, (1,))),
            Procedure("by", 2, ("go", 0, 1, ((0, 1),)), ("raise", 1, 1, "ask", (1,)), ("leave", 0, (1,)),
                      ("leave", 1, (1,))),
        )
        called = answered.with_procedure(Procedure("low", 2, ("call", 0, 1, "by", (0,), ()), ("leave", 1, (1,))))
        self.assertEqual(outcome(answered), ((1,), (("ask", 1),)))
        self.assertEqual(outcome(called), ((1,), ()))

    def test_a_raise_that_is_resumed_in_its_own_mode_cannot_be_left_out(self):
        self.assertEqual(does(TWO, "low", 0, ((0,),)), ((0,), (("ask", 0),)))
        made = TWO.with_procedure(Procedure("low", 2, ("go", 0, 1, ((0, 0),)), ("leave", 1, (0,))))
        self.assertEqual(does(made, "low", 0, ((0,),)), ((0,), ()))

    def test_an_answers_procedure_does_otherwise_as_the_main_one(self):
        made = Program(2, (0,), ("ask",), Procedure("by", 2, ("raise", 0, 1, "ask", (0,)), ("leave", 1, (1,))))
        self.assertEqual(outcome(made), ((), (("ask", 0),)))
        self.assertEqual(does(made, "by", 0, ((1,), ())), ((1,), (("ask", 0),)))

    def test_more_raises_are_open_than_there_are_answers(self):
        run = Run.own(PASS, 0, (0, 0, 1, 0))
        self.assertEqual(sum(len(each) == 3 for each in run.situation[1]), 2)
        self.assertEqual(len(PASS.answers), 1)


if __name__ == "__main__":
    unittest.main()
