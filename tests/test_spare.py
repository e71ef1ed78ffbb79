"""Promises [0.23], [0.24], [12.1] and stage 12: answers that are left out."""

import itertools
import unittest

from answeredabove.ask.ends import outcome
from answeredabove.ask.spare import MAX_CHOSEN, is_spare, least_sets, spare_answers
from answeredabove.ask.watch import Answers
from answeredabove.base.programs import Procedure, Program
from answeredabove.errors import InvalidOperation, InvalidProgram, TooMany, UnknownSite
from tests.crowds import branching, set_out
from tests.helpers import BOOLS, FIX, NEED, NO_PROGRAMS, ODD, PASS, Checks
from tests.samples import lively, programs
from tests.test_does import MIXED
from tests.test_ends import TWO
from tests.test_situations import NEST
from tests.test_watch import AGAIN, BARE, BOTH, NO_ANSWERS

MAIN, MID = ("main", 0, "ask"), ("mid", 0, "ask")
# What is no tuple of answers of TWO, with the value that the error keeps where it is not the value itself.
NO_TUPLES = [value for value in ODD + BOOLS if not isinstance(value, tuple)] + [
    0, "main", [MAIN], {MAIN: 0}, None, FIX, TWO, [],
]
NO_CHOSEN = [(value,) for value in NO_ANSWERS if value != MAIN] + [
    (MAIN, None), (MAIN, ("low", 0, "ask")), (("main", 1, "ask"), MAIN), (MAIN, MID, ("mid", 0, "need")), (MAIN + (0,),),
    MAIN, (MAIN, list(MID)), (MAIN, (MID,)), (MAIN, ("mid", False, "ask")),
]
NO_AIMS = ODD + BOOLS + ["answer", "Answered", "same ", "", ("same",), ["same"], None, 0, FIX, ("answered", "same")]
SIX = Program(
    1, (0,), ("ask",),
    Procedure("main", 6, *[("call", at, at + 1, "low", (0,), (("ask", "ok", ()),)) for at in range(5)],
              ("call", 5, 5, "mid", (0,), (("ask", "ok", ()),)), ("leave", 5, (0,))),
    Procedure("mid", 2, ("call", 0, 1, "low", (0,), (("ask", "ok", ()),)), ("leave", 1, (0,))),
    Procedure("low", 2, ("raise", 0, 1, "ask", (0,)), ("leave", 1, (0,))), Procedure("ok", 1, ("leave", 0, (0,))),
)
# Without these answers many tables are met.
CALMING = tuple(("root", 0, signal) for signal in ("aa", "bb", "cc"))
CALM = set_out(9).with_answers(("root", 0), tuple((signal, "never", ()) for signal in ("aa", "bb", "cc")))
SAMPLES = [NEED, PASS, NEST, MIXED, TWO, AGAIN, BOTH, BARE, *programs(95, 40), *lively(96, 40)]


def least_by_the_words(program, chosen, aim):
    """The least sets, by the words of [12.1]."""
    chosen = [answer for answer in program.answers if answer in chosen]
    do = []
    for many in range(len(chosen) + 1):
        for kept in itertools.combinations(chosen, many):
            ends = outcome(program.without_answers(tuple(answer for answer in chosen if answer not in kept)))
            if ends[1] == () if aim == "answered" else ends == outcome(program):
                do.append(kept)
    return tuple(sorted(kept for kept in do if not any(set(other) < set(kept) for other in do)))


class TestSpare(Checks):
    def test_the_examples(self):
        self.assertEqual(spare_answers(TWO), (MAIN, MID))
        self.assertIs(is_spare(TWO, TWO.answers), False)

    def test_alone_and_not_together(self):
        for answers in ((MAIN,), (MID,), (MID, MID), ()):
            self.assertIs(is_spare(TWO, answers), True)
        for answers in ((MAIN, MID), (MID, MAIN), (MID, MAIN, MID)):
            self.assertIs(is_spare(TWO, answers), False)

    def test_by_the_words(self):
        spare = 0
        for program in SAMPLES:
            ends = outcome(program)
            found = []
            for answer in program.answers:
                same = outcome(program.without_answers((answer,))) == ends
                self.assertIs(is_spare(program, (answer,)), same)
                self.assertIs(is_spare(program, (answer, answer)), same)
                found += [answer] * same
            spare += len(found)
            self.assertEqual(spare_answers(program), tuple(found))
            self.assertIs(is_spare(program, ()), True)
            self.assertIs(is_spare(program, program.answers), outcome(program.without_answers(program.answers)) == ends)
        self.assertGreater(spare, 60)

    def test_an_answer_that_never_begins(self):
        for program in SAMPLES:
            idle = Answers(program).idle
            self.assertIs(is_spare(program, idle), True)
            self.assertLessEqual(set(idle), set(spare_answers(program)))

    def test_no_answers(self):
        self.assertEqual(spare_answers(BARE), ())
        self.assertIs(is_spare(BARE, ()), True)
        self.refuse(UnknownSite, is_spare, BARE, (MAIN,))

    def test_many_tables(self):
        for made in (set_out(9), branching(""), branching("answers call main")):
            self.assertEqual(self.refuse(TooMany, spare_answers, made).limit, 200)
            for answers in ((), made.answers):
                self.assertEqual(self.refuse(TooMany, is_spare, made, answers).limit, 200)
            self.refuse(UnknownSite, is_spare, made, (("main", 9, "ask"),))

    def test_more_tables_without_answers(self):
        self.assertIs(is_spare(CALM, ()), True)
        self.assertIs(is_spare(CALM, CALMING[:1]), True)
        self.assertEqual(self.refuse(TooMany, is_spare, CALM, CALMING).limit, 200)
        for aim in ("answered", "same"):
            self.assertEqual(self.refuse(TooMany, least_sets, CALM, CALMING, aim=aim).limit, 200)
            self.assertEqual(least_sets(CALM, CALMING[1:], aim=aim), ((),))
        alone = Program.of(CALM.modes, CALM.starts, CALM.signals, tuple(
            Procedure("root", 1, CALM["root"].moves[0][:5] + ((("aa", "never", ()),),), *CALM["root"].moves[1:])
            if each.called == "root" else each for each in CALM.procedures))
        self.assertIs(is_spare(alone, ()), True)
        self.assertEqual(self.refuse(TooMany, is_spare, alone, CALMING[:1]).limit, 200)
        self.assertEqual(self.refuse(TooMany, spare_answers, alone).limit, 200)
        # The others do not make it too many.
        for answer in alone.answers:
            if answer != CALMING[0]:
                same = outcome(alone.without_answers((answer,))) == outcome(alone)
                self.assertIs(is_spare(alone, (answer,)), same)

    def test_errors_in_their_order(self):
        for value in NO_PROGRAMS:
            self.refuse(InvalidProgram, spare_answers, value)
            for answers in ((), None):
                self.refuse(InvalidProgram, is_spare, value, answers)
        for value in NO_TUPLES:
            self.assertIs(self.refuse(UnknownSite, is_spare, TWO, value).site, value)
        for value in NO_CHOSEN:
            wrong = [each for each in value if each not in TWO.answers or list(map(type, each)) != [str, int, str]]
            self.assertIs(self.refuse(UnknownSite, is_spare, TWO, value).site, wrong[0])


class TestLeastSets(Checks):
    def test_the_examples(self):
        self.assertEqual(least_sets(TWO, TWO.answers), ((MAIN,), (MID,)))
        self.assertEqual([least_sets(PASS, PASS.answers), least_sets(PASS, PASS.answers, aim="same")], [(), ((),)])
        self.assertEqual(MAX_CHOSEN, 6)

    def test_by_hand(self):
        self.assertEqual(least_sets(TWO, (MID, MAIN, MID), aim="answered"), ((MAIN,), (MID,)))
        self.assertEqual(least_sets(TWO, (MID, MAIN), aim="same"), ((MAIN,), (MID,)))
        self.assertEqual([least_sets(TWO, ()), least_sets(TWO, (), aim="same")], [((),), ((),)])
        self.assertEqual([least_sets(TWO, (MAIN,)), least_sets(TWO, (MID,))], [((),), ((),)])
        self.assertEqual([least_sets(NEED, NEED.answers), least_sets(NEED, NEED.answers, aim="same")],
                         [(NEED.answers,), (NEED.answers,)])
        self.assertEqual([least_sets(PASS, ()), least_sets(PASS, (), aim="same")], [(), ((),)])
        self.assertEqual([least_sets(BARE, ()), least_sets(BARE, (), aim="same")], [((),), ((),)])

    def test_by_the_words(self):
        several = 0
        for program in SAMPLES:
            for chosen in (program.answers[:4], program.answers[-3:], program.answers[::-2][:3], ()):
                for aim in ("answered", "same"):
                    found = least_sets(program, chosen, aim=aim)
                    self.assertEqual(found, least_by_the_words(program, chosen, aim))
                    several += len(found) > 1
                self.assertEqual(least_sets(program, chosen), least_sets(program, chosen, aim="answered"))
        self.assertGreater(several, 1)

    def test_ascending(self):
        renamed = TWO.renamed({"mid": "aa"})
        self.assertEqual(renamed.answers, (MAIN, ("aa", 0, "ask")))
        for aim in ("answered", "same"):
            self.assertEqual(least_sets(renamed, renamed.answers, aim=aim), ((("aa", 0, "ask"),), (MAIN,)))

    def test_six_and_seven(self):
        first, last, mid = SIX.answers[:5], SIX.answers[5:6], SIX.answers[6:]
        self.assertEqual(least_sets(SIX, first + last), (first,))
        self.assertEqual(least_sets(SIX, first + mid + mid), (first,))
        self.assertEqual(least_sets(SIX, first[1:] + last + mid, aim="same"), (first[1:] + last, first[1:] + mid))
        for aim in ("answered", "same"):
            self.assertEqual(self.refuse(TooMany, least_sets, SIX, SIX.answers, aim=aim).limit, 6)
        self.assertEqual(self.refuse(TooMany, least_sets, SIX, SIX.answers[::-1] + first).limit, 6)

    def test_many_tables(self):
        for made in (set_out(9), branching(""), branching("answers call main")):
            for chosen in ((), made.answers[:2]):
                for aim in ("answered", "same"):
                    self.assertEqual(self.refuse(TooMany, least_sets, made, chosen, aim=aim).limit, 200)
            self.refuse(InvalidOperation, least_sets, made, (), aim="all")
        made = set_out(9)
        crowded = made.with_procedure(Procedure("never", 1, *[
            ("call", 0, 0, "never", (0,), (("aa", "never", ()),)) for _ in range(7)
        ]))
        chosen = crowded.answers[-7:]
        self.refuse(UnknownSite, least_sets, crowded, chosen + (None,))
        self.refuse(InvalidOperation, least_sets, crowded, chosen, aim="all")
        chosen = tuple(answer for answer in crowded.answers if answer[0] == "never")
        self.assertEqual(len(chosen), 7)
        self.assertEqual(self.refuse(TooMany, least_sets, crowded, chosen).limit, 6)
        self.assertEqual(self.refuse(TooMany, least_sets, crowded, chosen[1:]).limit, 200)

    def test_errors_in_their_order(self):
        for aim in ["answered", "same", *NO_AIMS]:
            for value in NO_PROGRAMS:
                self.refuse(InvalidProgram, least_sets, value, TWO.answers, aim=aim)
            for value in NO_TUPLES:
                self.assertIs(self.refuse(UnknownSite, least_sets, TWO, value, aim=aim).site, value)
            for value in NO_CHOSEN[::7]:
                self.refuse(UnknownSite, least_sets, TWO, value, aim=aim)
        for aim in NO_AIMS:
            for program, chosen in ((TWO, TWO.answers), (TWO, ()), (SIX, SIX.answers)):
                self.refuse(InvalidOperation, least_sets, program, chosen, aim=aim)


class TestWhatIsNotTrue(Checks):
    """What [0.24] calls not true of answers that are left out."""

    def test_no_single_least_set(self):
        self.assertEqual(len(least_sets(TWO, TWO.answers)), 2)

    def test_what_is_spare_alone_is_not_spare_together(self):
        self.assertEqual(spare_answers(TWO), TWO.answers)
        self.assertIs(is_spare(TWO, spare_answers(TWO)), False)


if __name__ == "__main__":
    unittest.main()
