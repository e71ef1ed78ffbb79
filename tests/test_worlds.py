"""Promise [12.1] and stage 12 where many choices of answers are gone through at once: the same as one after another."""

import itertools
import random
import unittest
from unittest import mock

from answeredabove.ask import outcomes
from answeredabove.ask.ends import outcome
from answeredabove.ask.outcomes import Outcomes, has_few_tables
from answeredabove.ask.spare import is_spare, least_sets, spare_answers
from answeredabove.ask.watch import Answers
from answeredabove.base.programs import Procedure, Program
from answeredabove.errors import TooMany
from answeredabove.know import meetings, solvers
from answeredabove.know.begins import answers_begun
from answeredabove.know.books import book_of
from answeredabove.know.bounds import most_tables
from answeredabove.know.does import does
from answeredabove.know.gatherings import Gathering
from answeredabove.know.meetings import own_roots
from answeredabove.know.plans import plan_of
from answeredabove.know.scenes import Pack
from answeredabove.know.worlds import Worlds
from tests.crowds import branching, crowd, pairing, set_out
from tests.helpers import NEED, PASS, Checks
from tests.samples import contexts, layered, lively, programs
from tests.test_ends import TWO
from tests.test_spare import CALM, CALMING, SIX, least_by_the_words

ASK = (("ask", "p", ()),)
# Nothing ever asks.
QUIET = Program(
    1, (0,), ("ask",), Procedure("main", 2, *[("call", 0, 1, "p", (0,), ASK)] * 8), Procedure("p", 1, ("leave", 0, (0,))),
)
# The answers at the calls of `calm` never begin, nor those to "need" at the others; one call has two that can answer.
SOME = Program(
    2, (0,), ("ask", "need"),
    Procedure(
        "main", 5, ("call", 0, 1, "mid", (0, 1), (("ask", "turn", ()),)),
        ("call", 1, 2, "calm", (0, 1), (("ask", "turn", ()), ("need", "turn", ((1, 4),)))),
        ("call", 2, 3, "low", (0, 1), (("ask", "again", ((1, 4),)),)), ("leave", 3, (0,)),
        ("call", 4, 3, "low", (0, 1), (("ask", "turn", ()),)), ("leave", 4, (1,)),
        ("call", 3, 4, "low", (0, 1), (("ask", "turn", ()), ("need", "again", ()))),
    ),
    Procedure("mid", 2, ("call", 0, 1, "low", (0, 1), (("ask", "turn", ()),)), ("leave", 1, (0, 1))),
    Procedure("low", 2, ("raise", 0, 1, "ask", (0, 1)), ("leave", 1, (0, 1))),
    Procedure("calm", 1, ("leave", 0, (0, 1))),
    Procedure("turn", 2, ("go", 0, 1, ((0, 1), (1, 0))), ("leave", 1, (0, 1))),
    Procedure("again", 2, ("raise", 0, 1, "need", (0,)), ("leave", 0, (1,)), ("leave", 1, (0, 1))),
)
DRAWN = [
    *programs(211, 30, signals=3), *lively(212, 40, modes=3, signals=3), *lively(213, 60), *lively(215, 20, modes=1),
    *programs(214, 8, procedures=9, modes=4, signals=3, points=6, moves=12), *layered(216, 60), *layered(217, 40, 2, 3),
    *layered(218, 40, 3, 1),
]
# Each answer adds one mode to one of all eight entries of the table, so that all 256 tables are met.
EIGHT = ("ha", "hb", "hc", "hd", "he", "hf", "hg", "hh")
ENTRIES = list(itertools.product(("ask", "need"), (0, 1), (0, 1)))
ALL = Program(
    2, (0,), ("ask", "need"),
    Procedure(
        "main", 2, *[("call", 0, 1, "main", (0,), ((entry[0], name, ()),)) for name, entry in zip(EIGHT, ENTRIES)],
        ("raise", 0, 1, "ask", (0, 1)), ("raise", 0, 1, "need", (0, 1)), ("leave", 1, (0, 1)),
    ), *[
        Procedure(name, 2, ("go", 0, 1, ((old, new),)), ("raise", 0, 1, signal, (0, 1)), ("leave", 1, (0, 1)))
        for name, (signal, old, new) in zip(EIGHT, ENTRIES)
    ],
)


def new(program):
    """The same program, of which nothing is known."""
    return Program.of(program.modes, program.starts, program.signals, program.procedures)


def choices(program, many, seed):
    """So many worlds, each with other answers left out, as a list of tuples of answers, and as Outcomes take them."""
    draw = random.Random(seed)
    out = [tuple(answer for answer in program.answers if draw.random() < 0.4) for _ in range(many)]
    out[0] = ()
    within = {
        answer: sum(1 << world for world in range(many) if answer not in out[world])
        for answer in program.answers if draw.random() < 0.9
    }
    return [tuple(answer for answer in each if answer in within) for each in out], within


class TestOutcomes(Checks):
    def check(self, program, out, within):
        """What is told of the worlds is what is told of the programs one after another."""
        told = [outcome(program.without_answers(each)) for each in out]
        found = Outcomes(new(program), len(out), within)
        self.assertEqual(found.all_answered(), sum(1 << at for at, ends in enumerate(told) if ends[1] == ()))
        for world, ends in enumerate(told):
            self.assertEqual(found.same_as(world), sum(1 << at for at, each in enumerate(told) if each == ends))
        return told

    def test_drawn_programs(self):
        several = 0
        for at, program in enumerate([NEED, PASS, TWO, SIX, SOME, QUIET, CALM, pairing(3), crowd(3), *DRAWN]):
            for many in (1, 2, 7, 40):
                told = self.check(program, *choices(program, many, at * many))
                several += len(set(told)) > 1
        self.assertGreater(several, 30)

    def test_one_after_another(self):
        with mock.patch.multiple(outcomes, MOST_FOLLOWED=0, MORE_FOLLOWED=0):
            for at, program in enumerate([SIX, SOME, pairing(3), *DRAWN[::5]]):
                self.check(program, *choices(program, 6, at))

    def test_few_and_many_steps(self):
        for most in (1, 3, 10, 30, 100):
            with mock.patch.multiple(outcomes, MOST_FOLLOWED=most, MORE_FOLLOWED=0, MANY_CELLS=10 ** 6):
                for at, program in enumerate([SIX, SOME, pairing(4), *DRAWN[::6]]):
                    self.check(program, *choices(program, 5, at))


class TestGathering(Checks):
    def gathered(self, program, many, within):
        """What Worlds gather of a program: for each world the contexts that are met, as told outside."""
        plan, roots = plan_of(program), own_roots(program)
        worlds = Worlds(plan, many, within, 10 ** 6)
        gathering = Gathering(worlds, roots)
        self.assertIs(gathering.whole, True)
        found = [set() for _ in range(many)]
        for mask, packed in gathering.tables.items():
            for spot, world in itertools.product(range(len(plan.first)), range(many)):
                if worlds.pack.at(packed, spot) >> world & 1:
                    found[world].add(plan.unpacked(spot, mask))
        return found

    def test_the_contexts_of_each_world(self):
        for at, program in enumerate([NEED, PASS, TWO, SIX, SOME, pairing(2), pairing(4), crowd(2), *DRAWN[::2]]):
            out, within = choices(program, 5, at)
            for world, found in enumerate(self.gathered(program, 5, within)):
                self.assertEqual(found, set(book_of(program.without_answers(out[world]))))

    def test_too_many_in_one_world(self):
        # Each of these alone meets 200 tables or fewer, both in one are more than 200.
        for made, many in ((set_out(7), 2), (set_out(8), 1)):
            self.gathered(made, many, {})
        for made in (set_out(9), pairing(8)):
            with self.assertRaises(TooMany):
                self.gathered(made, 1, {})
        with self.assertRaises(TooMany):
            Outcomes(branching(""), 40, {})
        every = {answer: 0b011 for answer in CALMING}
        with self.assertRaises(TooMany):
            self.gathered(CALM, 3, every)
        self.assertEqual(len(self.gathered(CALM, 3, {CALMING[0]: 0b011, CALMING[1]: 0b101})), 3)

    def test_many_tables_in_all_worlds_together(self):
        made = set_out(7)
        chosen = made.answers[:6]
        within = {answer: (1 << 7) - 1 ^ 1 << at for at, answer in enumerate(chosen)}
        found = self.gathered(made, 7, within)
        tables = [{context[2] for context in each} for each in found]
        self.assertGreater(len(set().union(*tables)), 200)
        self.assertLessEqual(max(map(len, tables)), 200)
        self.assertEqual(least_sets(made, chosen), least_by_the_words(made, chosen, "answered"))


    def test_all_tables_and_half_of_them(self):
        for program in (ALL, new(ALL)):
            self.assertEqual(self.refuse(TooMany, spare_answers, program).limit, 200)
            self.assertEqual(self.refuse(TooMany, is_spare, program, program.answers[:1]).limit, 200)
            self.assertEqual(self.refuse(TooMany, least_sets, program, ()).limit, 200)
        fewer = ALL.without_answers(ALL.answers[3:4])
        self.assertEqual(len({context[2] for context in book_of(fewer)}), 128)
        self.assertIs(is_spare(fewer, fewer.answers[:1]), True)
        for aim in ("same", "answered"):
            chosen = fewer.answers[1:5]
            self.assertEqual(least_sets(fewer, chosen, aim=aim), least_by_the_words(fewer, chosen, aim))


class TestSixAnswers(Checks):
    def test_nothing_asks(self):
        for chosen in (QUIET.answers[:6], QUIET.answers[:6] * 2, QUIET.answers[2:][::-1], QUIET.answers[3:4], ()):
            for aim in ("same", "answered"):
                self.assertEqual(least_sets(new(QUIET), chosen, aim=aim), ((),))
        self.assertEqual(spare_answers(QUIET), QUIET.answers)
        self.assertIs(is_spare(QUIET, QUIET.answers), True)
        self.assertEqual(self.refuse(TooMany, least_sets, QUIET, QUIET.answers[:7], aim="same").limit, 6)

    def test_some_begin(self):
        answers = Answers(SOME)
        self.assertEqual((len(SOME.answers), len(answers), len(answers.idle)), (8, 4, 4))
        self.assertEqual(outcome(SOME), ((0, 1), ()))
        sizes = set()
        for chosen in itertools.combinations(SOME.answers, 6):
            for aim in ("same", "answered"):
                found = least_sets(new(SOME), chosen, aim=aim)
                self.assertEqual(found, least_by_the_words(SOME, chosen, aim))
                self.assertEqual(least_sets(new(SOME), chosen[::-1] * 2, aim=aim), found)
                sizes |= {len(each) for each in found}
        self.assertGreater(len(sizes), 1)
        self.assertIs(is_spare(SOME, answers.idle), True)

    def test_just_six_of_which_some_begin(self):
        some = []
        for out in itertools.combinations(SOME.answers, 2):
            six = SOME.without_answers(out)
            begun = Answers(six)
            self.assertEqual(len(six.answers), 6)
            some.append(len(begun))
            for aim in ("same", "answered"):
                told = least_by_the_words(six, six.answers, aim)
                self.assertEqual(least_sets(six, six.answers, aim=aim), told)
                # What never begins is not kept.
                self.assertEqual(least_sets(six, begun.idle, aim="same"), ((),))
        self.assertEqual(sorted(set(some)), [0, 1, 2, 3, 4])

    def test_drawn_programs(self):
        asked = 0
        for program in DRAWN[::3]:
            chosen = program.answers[-6:]
            for aim in ("same", "answered"):
                self.assertEqual(least_sets(new(program), chosen, aim=aim), least_by_the_words(program, chosen, aim))
            asked += len(chosen) == 6
        self.assertGreater(asked, 15)

    def test_one_question_after_another(self):
        for program in [SOME, SIX, *DRAWN[::8]]:
            chosen = program.answers[:4]
            told = [least_sets(new(program), chosen, aim=aim) for aim in ("same", "answered")]
            spare = spare_answers(new(program))
            for _ in range(2):
                for aim, least in zip(("same", "answered"), told):
                    self.assertEqual(least_sets(program, chosen, aim=aim), least)
                self.assertEqual([answer for answer in program.answers if is_spare(program, (answer,))], list(spare))
                self.assertIs(is_spare(program, chosen), outcome(program.without_answers(chosen)) == outcome(program))
                self.assertEqual(spare_answers(program), spare)
                self.assertEqual(least_sets(program, chosen[:2]), least_by_the_words(program, chosen[:2], "answered"))


    def test_one_answer_in_several_questions(self):
        for program in (NEED, TWO.without_answers(TWO.answers[:1]), pairing(3), pairing(4), *layered(219, 20)):
            for answer in program.answers[:3]:
                spare = outcome(program.without_answers((answer,))) == outcome(program)
                for _ in range(2):
                    self.assertIs(is_spare(program, (answer,)), spare)
                    self.assertEqual(least_sets(program, (answer,), aim="same"), ((),) if spare else (((answer,),)))
                    self.assertIs(is_spare(program, (answer, answer)), spare)
                    self.assertEqual(answer in spare_answers(program), spare)


class TestBegins(Checks):
    def test_answers_that_begin(self):
        several = 0
        for program in [NEED, PASS, TWO, SIX, SOME, QUIET, CALM, pairing(4), crowd(3), *DRAWN]:
            begun = Answers(program)
            for _ in range(2):
                self.assertEqual(set(answers_begun(program)), set(begun.program.answers) - set(begun.idle))
            several += 0 < len(begun) < len(program.answers)
        self.assertGreater(several, 60)

    def test_after_other_questions(self):
        for program in [SOME, *DRAWN[::7]]:
            made = new(program)
            for context in contexts(made):
                does(made, *context)
            self.assertEqual(set(answers_begun(made)), set(program.answers) - set(Answers(program).idle))

    def test_if_not_all_is_known(self):
        unknown = 0
        with mock.patch.object(solvers, "LONG", 0), mock.patch.object(meetings, "SHORT", 0):
            for program in [SOME, TWO, *layered(221, 20)]:
                made = new(program)
                begun = answers_begun(made)
                unknown += begun is None
                if begun is not None:
                    self.assertEqual(set(begun), set(program.answers) - set(Answers(program).idle))
                spare = [outcome(program.without_answers((each,))) == outcome(program) for each in program.answers]
                self.assertEqual([is_spare(made, (answer,)) for answer in program.answers], spare)
                for chosen in (program.answers[:3], Answers(program).idle[:2]):
                    self.assertEqual(least_sets(made, chosen), least_by_the_words(program, chosen, "answered"))
        self.assertGreater(unknown, 15)

    def test_nothing_is_left_out_that_matters(self):
        for program in [SOME, PASS, *layered(220, 60)]:
            idle = Answers(program).idle
            for chosen in (idle, idle[:1], idle[1:] * 2, ()):
                self.assertIs(is_spare(new(program), chosen), True)
                chosen = tuple(dict.fromkeys(chosen))[:6]
                self.assertEqual(least_sets(new(program), chosen, aim="same"), ((),))
                self.assertEqual(least_sets(new(program), chosen), ((),) if outcome(program)[1] == () else ())


class TestBounds(Checks):
    def bound(self, program):
        own_roots(program)
        return most_tables(plan_of(program))

    def test_by_hand(self):
        for program, most in ((NEED, 2), (TWO, 2), (QUIET, 2), (SOME, 4 * 6), (PASS, 1 + 2), (pairing(3), 1 + 3 * 2 ** 8)):
            self.assertEqual(self.bound(program), most)
        self.assertEqual([has_few_tables(program) for program in (PASS, SOME, CALM, ALL)], [True, True, False, False])

    def test_answers_of_several_kinds(self):
        low = Procedure("low", 2, ("raise", 0, 1, "ask", (0, 1)), ("leave", 1, (0, 1)))
        turn = Procedure("turn", 2, ("go", 0, 1, ((0, 1), (1, 0))), ("leave", 1, (0, 1)))
        # By one procedure, but they resume in other modes.
        unwinds = [(), ((0, 1),), ((1, 1),), ((0, 0), (1, 0)), ((0, 0),)]
        calls = [("call", 0, 1, "low", (0, 1), (("ask", "turn", each),)) for each in unwinds]
        made = Program(2, (0,), ("ask",), Procedure("main", 2, *calls, ("leave", 1, (0, 1))), low, turn)
        self.assertEqual(self.bound(made), 1 + 4)
        # `calm` raises nothing, and all that comes of what it calls is answered; but not without this answer.
        calm = Procedure("calm", 2, ("call", 0, 1, "low", (0, 1), (("ask", "turn", ()),)), ("leave", 1, (1,)))
        main = Procedure("main", 2, ("call", 0, 1, "low", (0, 1), (("ask", "calm", ()),)), ("leave", 1, (0, 1)))
        self.assertEqual(self.bound(Program(2, (0,), ("ask",), main, low, turn, calm)), 1 + 1 + 4)
        # Only without the answer of `stuck`, which is never left, `calm` is left.
        stuck = Procedure("stuck", 1, ("call", 0, 0, "dead", (0, 1), (("ask", "stuck", ()),)))
        dead = Procedure("dead", 2, ("raise", 0, 1, "ask", (0, 1)))
        calm = Procedure("calm", 2, ("call", 0, 0, "stuck", (0, 1), (("ask", "turn", ((0, 1), (1, 1))),)), ("leave", 1, (1,)))
        made = Program(2, (0,), ("ask",), main, low, turn, calm, stuck, dead)
        self.assertEqual(outcome(made), ((), ()))
        self.assertEqual(outcome(made.without_answers((("stuck", 0, "ask"),))), ((1,), ()))
        self.assertEqual(self.bound(made), 1 + 1 + 4 + 1)
        self.assertEqual(spare_answers(made), (("calm", 0, "ask"),))

    def test_not_less_than_there_are(self):
        few = 0
        for at, program in enumerate([SIX, SOME, pairing(4), *DRAWN]):
            for out in choices(program, 4, at)[0]:
                met = {context[2] for context in book_of(program.without_answers(out))}
                self.assertLessEqual(len(met), self.bound(new(program)))
            few += has_few_tables(program)
        self.assertGreater(few, 150)


class TestPack(Checks):
    def test_packing(self):
        pack = Pack(5)
        self.assertEqual((pack.many, pack.every), (5, 31))
        self.assertEqual([pack.spaced(mask) for mask in (0, 1, 2, 5)], [0, 1, 32, 1 + 1024])
        packed = 19 * pack.spaced(6)
        self.assertEqual([pack.at(packed, place) for place in range(4)], [0, 19, 19, 0])
        self.assertEqual(pack.folded(packed | 4), 23)
        self.assertEqual(pack.folded(0), 0)


if __name__ == "__main__":
    unittest.main()
