"""What is known is the same whatever the order in which it is learned, and the limit of tables stands where it should."""

import contextlib
import unittest
from unittest import mock

from answeredabove.ask.ends import end_paper, outcome
from answeredabove.ask.nests import deep_run, deepest, depth_paper
from answeredabove.ask.watch import run_with, watched
from answeredabove.base.programs import Program
from answeredabove.errors import TooMany
from answeredabove.know.books import book_of, contexts_met, is_book
from answeredabove.know.derivations import derivation_of, is_derivation, run_of
from answeredabove.know.does import does, inner_table, reached
from tests.helpers import NEED, PASS, Checks
from tests.oracle import Oracle
from tests.samples import contexts, lively, programs
from tests.test_derivations import facts
from tests.test_does import MIXED
from tests.test_ends import ends
from tests.test_situations import NEST

# How many steps a solver takes before it looks at what is met, and before it becomes wary; how many calls it may have
# followed in vain; how many cells it may have to be kept.
WAYS = [(0, 0, 0, 0), (1, 3, 9, 1000), (3, 10 ** 6, 0, 1000), (2, 9, 1, 5), (10 ** 6, 10 ** 6, 10 ** 6, 10 ** 6)]


def again(program):
    """An equal program about which nothing is known."""
    return Program.of(program.modes, program.starts, program.signals, program.procedures)


def going(short, long, stale, cells):
    """What is learned while this is so is learned in another order."""
    stack = contextlib.ExitStack()
    for name, value in (("meetings.SHORT", short), ("solvers.LONG", long), ("solvers.STALE", stale),
                        ("meetings.MOST_CELLS", cells)):
        stack.enter_context(mock.patch(f"answeredabove.know.{name}", value))
    return stack


def all_told(program, context):
    """All that is known of a context, but for derivations."""
    return does(program, *context), reached(program, *context), contexts_met(program, *context)


class TestWary(Checks):
    """A solver that is wary from the beginning, or soon, finds the same."""

    def test_the_same_is_known(self):
        samples = [NEED, PASS, NEST, MIXED, *programs(71, 50), *programs(85, 20, 6, 4, 3, 3, 10), *lively(73, 30)]
        for at, program in enumerate(samples):
            for context in contexts(program, at)[::7]:
                oracle = Oracle(program, [context])
                told = tuple(tuple(sorted(each)) for each in oracle.told[context])
                expected = told, tuple(sorted(oracle.states[context])), tuple(sorted(oracle.met))
                for way in WAYS:
                    with going(*way):
                        self.assertEqual(all_told(again(program), context), expected)

    def test_many_questions_one_after_another(self):
        for at, program in enumerate([NEST, MIXED, *programs(74, 15), *programs(75, 10, 6, 4, 3, 3, 10)]):
            asked = contexts(program, at, 3)[::5]
            told = [all_told(again(program), context) for context in asked]
            for way in WAYS:
                with going(*way):
                    same = again(program)
                    self.assertEqual([all_told(same, context) for context in asked], told)
                    self.assertEqual([all_told(same, context) for context in asked[::-1]], told[::-1])

    def test_books_inner_tables_and_what_rests_on_them(self):
        for program in programs(73, 40) + lively(76, 40):
            book = book_of(program)
            inner = [inner_table(program, context[2], site) for context in book for site in program.calls[:2]]
            told = [outcome(program), watched(program), deepest(program)]
            for way in WAYS[:4]:
                with going(*way):
                    other = again(program)
                    self.assertEqual(book_of(other), book)
                    self.assertEqual([outcome(other), watched(other), deepest(other)], told)
                    found = [inner_table(other, context[2], site) for context in book for site in program.calls[:2]]
                    self.assertEqual(found, inner)
            self.assertIs(is_book(program, book), True)

    def test_derivations(self):
        found = 0
        samples = [(program, 9) for program in programs(74, 40)] + [(program, 11) for program in lively(77, 20)]
        samples += [(program, 47) for program in programs(75, 5, 6, 4, 3, 3, 10)]
        for at, (program, step) in enumerate(samples):
            for context in contexts(program, at)[::step]:
                for way in WAYS[:3]:
                    with going(*way):
                        found += self.check(again(program), context)
        self.assertGreater(found, 200)

    def test_derivations_of_what_is_taken_over(self):
        # In these a fact is first known of a context under a table within its own one.
        for seed, places in ((1, (5, 9, 12, 15, 36, 55)), (3, (4,)), (6, (27,)), (7, (11, 47, 54)), (8, (11,))):
            samples = programs(seed, 60, 6, 4, 3, 3, 10)
            for place in places:
                for context in contexts(samples[place], place)[::17]:
                    told = all_told(samples[place], context)
                    with going(*WAYS[0]):
                        self.assertEqual(all_told(again(samples[place]), context), told)
                        self.check(again(samples[place]), context)

    def check(self, program, context):
        """How many facts of a context are true; each one has a derivation."""
        found = 0
        leaves, escapes = does(program, *context)
        for fact in facts(program, *context):
            value = derivation_of(program, fact)
            self.assertIs(value is not None, fact[4] in leaves if fact[0] == "leaves" else fact[4:] in escapes)
            if value is not None:
                found += 1
                self.assertIs(is_derivation(program, value), True)
                end = run_of(program, value).situation
                self.assertEqual(end, (fact[-1], (), None if fact[0] == "leaves" else fact[4]))
        return found


class TestEqualCalls(Checks):
    """Equal calls return equal results, also where several would be correct, whatever was asked before [0.2]."""

    def questions(self, program, at):
        asked = [(call, (program, number)) for call in (deep_run, depth_paper) for number in (0, 1, 3)]
        asked += [(end_paper, (program, end)) for end in ends(program)]
        asked += [(run_with, (program, answer, 0)) for answer in program.answers]
        for context in contexts(program, at)[::9]:
            asked += [(derivation_of, (program, fact)) for fact in facts(program, *context)[:6]]
        return asked

    def test_in_any_order(self):
        for at, program in enumerate([NEED, PASS, NEST, MIXED, *programs(78, 15), *lively(79, 25), *lively(80, 5, 6, 3, 2)]):
            alone = []
            for place in range(len(self.questions(program, at))):
                call, arguments = self.questions(again(program), at)[place]
                alone.append(call(*arguments))
            same = again(program)
            self.assertEqual([call(*arguments) for call, arguments in self.questions(same, at)[::-1]], alone[::-1])
            with going(300, 5000, 10, 0):
                self.assertEqual([call(*arguments) for call, arguments in self.questions(same, at)], alone)


class TestLimit(Checks):
    def test_just_where_more_tables_are_met(self):
        refused = 0
        for at, program in enumerate(programs(76, 120) + programs(77, 30, 6, 4, 3, 3, 10) + lively(81, 40)):
            for context in contexts(program, at)[::13]:
                many = len({each[2] for each in Oracle(program, [context]).met})
                for limit in (1, 2, 4):
                    refused += many > limit
                    same = again(program)
                    for way in WAYS[:4]:
                        self.check(again(program), context, limit, way, many > limit)
                        self.check(same, context, limit, way, many > limit)
        self.assertGreater(refused, 50)

    def check(self, program, context, limit, way, right):
        with mock.patch("answeredabove.know.meetings.MOST_TABLES", limit), going(*way):
            for call in (does, reached, contexts_met):
                if right:
                    self.assertEqual(self.refuse(TooMany, call, program, *context).limit, limit)
                else:
                    call(program, *context)


if __name__ == "__main__":
    unittest.main()
