"""Programs in which many tables are met: 8 of them, 32, and more than 200 [0.18], stages 6 to 9."""

import unittest

from answeredabove.ask.ends import can_end, end_paper, is_end_paper, outcome
from answeredabove.errors import InvalidMode, InvalidOperation, InvalidTable, TooMany, UnknownName
from answeredabove.know.books import book_of, contexts_met, is_book
from answeredabove.know.derivations import derivation_of, is_derivation, run_of
from answeredabove.know.does import does, inner_table, reached
from answeredabove.know.tables import empty_table, full_table
from tests.crowds import pairing
from tests.helpers import Checks
from tests.oracle import Oracle
from tests.samples import contexts
from tests.test_ends import ends

EMPTY = ((), (), ())
FIRST = ("p", 0, EMPTY)
# The raise of the main procedure comes behind its calls.
ESCAPES = ("escapes", "p", 0, EMPTY, "a", 0)
EVERYTHING = ((0, 1, 2), (("a", 0), ("a", 1), ("a", 2)))
INNER = [((0,), (), ()), ((1,), (), ()), ((2,), (), ()), ((), (0,), ()), ((), (1,), ())]


def asked(program):
    """What is told of the main procedure, from 0 under the empty table."""
    found = [call(program, *FIRST) for call in (does, reached, contexts_met)]
    found += [inner_table(program, EMPTY, site) for site in program.calls]
    found += [book_of(program), outcome(program)]
    found += [can_end(program, end) for end in ends(program)]
    return found + [end_paper(program, end) for end in ends(program)]


def wide_book(program):
    """A book of few contexts that tells as much as possible."""
    contexts_told = [("p", 0, table) for table in (EMPTY, full_table(program))]
    answering = [(name, mode, table) for _, _, table in contexts_told for name in program.names[1:] for mode in range(3)]
    return {context: EVERYTHING for context in contexts_told + answering}


class TestAnswers(Checks):
    """Where 8 or 32 tables are met, there is an answer."""

    def test_as_they_are(self):
        for many, tables, met in ((3, 8, 80), (5, 32, 512)):
            program = pairing(many)
            self.assertEqual(does(program, *FIRST), ((0, 1, 2), (("a", 0),)))
            self.assertEqual(reached(program, *FIRST), ((0, 0), (1, 0), (1, 1), (1, 2)))
            found = contexts_met(program, *FIRST)
            self.assertEqual((len(found), len({context[2] for context in found})), (met, tables))
            self.assertEqual([inner_table(program, EMPTY, site) for site in program.calls], INNER[:many])
            self.assertEqual(outcome(program), ((0, 1, 2), (("a", 0),)))
            self.assertEqual([can_end(program, end) for end in ends(program)], [True] * 4 + [False] * 2)
            self.assertEqual([end_paper(program, end)[0] for end in ends(program)], ["derivation"] * 4 + ["book"] * 2)

    def test_by_the_words(self):
        for many in (1, 3, 4, 5):
            program = pairing(many)
            told = Oracle(program, [FIRST])
            self.assertEqual(contexts_met(program, *FIRST), tuple(sorted(told.met)))
            book = {context: tuple(tuple(sorted(each)) for each in told.told[context]) for context in sorted(told.met)}
            self.assertEqual(book_of(program), book)
            self.assertEqual(list(book_of(program)), list(book))
            self.assertIs(is_book(program, book), True)
            for context, pair in book.items():
                self.assertEqual(does(program, *context), pair)
                self.assertEqual(reached(program, *context), tuple(sorted(told.states[context])))
                for site in program.calls:
                    inner = told.inner(context[2], program.move(site))
                    self.assertEqual(inner_table(program, context[2], site), inner)

    def test_many_tables_and_all_modes(self):
        for many in (3, 5):
            program = pairing(many)
            for context in contexts(program, many, 12):
                told = Oracle(program, [context])
                self.assertEqual(does(program, *context), tuple(tuple(sorted(each)) for each in told.told[context]))
                self.assertEqual(reached(program, *context), tuple(sorted(told.states[context])))
                self.assertEqual(contexts_met(program, *context), tuple(sorted(told.met)))

    def test_papers(self):
        for many in (3, 5):
            program = pairing(many)
            for end in ends(program):
                paper = end_paper(program, end)
                for other in ends(program):
                    # Books are all the same here.
                    right = other == end or (paper[0] == "book" and not can_end(program, other))
                    self.assertIs(is_end_paper(program, other, paper), right)
            for end in range(3):
                found = derivation_of(program, ("leaves", *FIRST, end))
                self.assertIs(is_derivation(program, found), True)
                self.assertEqual(run_of(program, found).situation, (end, (), None))

    def test_asked_one_after_another(self):
        told = [asked(pairing(many)) for many in (3, 4, 5)]
        same = [pairing(many) for many in (3, 4, 5)]
        for _ in range(3):
            self.assertEqual([asked(program) for program in same], told)


class TestTooMany(Checks):
    """Where all eight procedures answer, too many tables are met."""

    def test_refused(self):
        program = pairing(8)
        for _ in range(2):
            for call in (does, reached, contexts_met):
                self.assertEqual(self.refuse(TooMany, call, program, *FIRST).limit, 200)
                self.assertEqual(self.refuse(TooMany, call, pairing(8), *FIRST).limit, 200)
            for call in (book_of, outcome):
                self.assertEqual(self.refuse(TooMany, call, program).limit, 200)
                self.assertEqual(self.refuse(TooMany, call, pairing(8)).limit, 200)
            for end in ends(program):
                for call in (can_end, end_paper):
                    self.assertEqual(self.refuse(TooMany, call, program, end).limit, 200)
                    self.assertEqual(self.refuse(TooMany, call, pairing(8), end).limit, 200)
            self.assertEqual(self.refuse(TooMany, derivation_of, program, ESCAPES).limit, 200)

    def test_other_errors_come_first(self):
        program = pairing(8)
        for call in (does, reached, contexts_met):
            self.refuse(UnknownName, call, program, "q", 3, ())
            self.refuse(InvalidMode, call, program, "p", 3, ())
            self.refuse(InvalidTable, call, program, "p", 0, ())
        for call in (can_end, end_paper):
            self.refuse(InvalidOperation, call, program, ("left", 3))
        self.refuse(InvalidOperation, is_end_paper, program, ("left", 3), ("book", {}))

    def test_papers_are_judged(self):
        program = pairing(8)
        derivation = ((ESCAPES, (("raise", 8),)),)
        book = wide_book(program)
        self.assertIs(is_end_paper(program, ("unanswered", "a", 0), ("derivation", derivation)), True)
        self.assertIs(is_end_paper(program, ("unanswered", "a", 1), ("derivation", derivation)), False)
        self.assertIs(is_book(program, book), True)
        for end in ends(program):
            self.assertIs(is_end_paper(program, end, ("book", book)), False)
            self.assertIs(is_end_paper(program, end, ("book", {})), False)
        never = {context: ((0, 1, 2), (("a", 0),)) for context in book if context[0] == "p"}
        own = {context: ((0, 1, 2), (("a", context[1]),)) for context in book if context[0] != "p"}
        # What the procedures raise in other modes escapes from none of the calls, which raise in 0 alone.
        self.assertIs(is_end_paper(program, ("unanswered", "a", 1), ("book", {**never, **own})), True)
        self.assertIs(is_end_paper(program, ("unanswered", "a", 0), ("book", {**never, **own})), False)
        del own[("hz", 2, EMPTY)]
        self.assertIs(is_end_paper(program, ("unanswered", "a", 1), ("book", {**never, **own})), False)

    def test_what_meets_fewer_has_answers(self):
        program = pairing(8)
        with self.assertRaises(TooMany):
            outcome(program)
        for context in [(name, mode, EMPTY) for name in program.names for mode in range(3) if (name, mode) != ("p", 0)]:
            told = Oracle(program, [context])
            self.assertEqual(does(program, *context), tuple(tuple(sorted(each)) for each in told.told[context]))
            self.assertEqual(contexts_met(program, *context), (context,))
        everything = ("p", 0, full_table(program))
        self.assertEqual(does(program, *everything), ((0, 1, 2), (("a", 0),)))
        self.assertEqual(len({context[2] for context in contexts_met(program, *everything)}), 1)
        self.assertEqual(inner_table(program, empty_table(program), ("p", 4)), ((), (1,), ()))
        self.assertEqual(outcome(program.with_starts((1, 2))), ((), ()))
        self.refuse(TooMany, outcome, program.with_starts((0, 1, 2)))


if __name__ == "__main__":
    unittest.main()
