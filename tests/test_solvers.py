"""What is known is the same whatever the order in which it is learned, and the limit of tables stands where it should."""

import unittest
from unittest import mock

from answeredabove.errors import TooMany
from answeredabove.know.books import book_of, contexts_met, is_book
from answeredabove.know.derivations import derivation_of, is_derivation, run_of
from answeredabove.know.does import does, inner_table, reached
from tests.helpers import NEED, PASS, Checks
from tests.oracle import Oracle
from tests.samples import contexts, programs
from tests.test_derivations import facts
from tests.test_does import MIXED
from tests.test_situations import NEST


def all_told(program, context):
    """All that is known of a context, but for derivations."""
    return does(program, *context), reached(program, *context), contexts_met(program, *context)


class TestWary(Checks):
    """A solver that is wary from the beginning, or soon, finds the same."""

    def test_the_same_is_known(self):
        samples = [NEED, PASS, NEST, MIXED, *programs(71, 60), *programs(72, 25, 6, 4, 3, 3, 10)]
        for at, program in enumerate(samples):
            for context in contexts(program, at)[::7]:
                told = all_told(program, context)
                for few in (0, 1, 3):
                    with mock.patch("answeredabove.know.solvers.FEW_TABLES", few):
                        self.assertEqual(all_told(program, context), told)

    def test_books_and_inner_tables(self):
        for program in programs(73, 60):
            book = book_of(program)
            inner = [inner_table(program, context[2], site) for context in book for site in program.calls[:2]]
            for few in (0, 2):
                with mock.patch("answeredabove.know.solvers.FEW_TABLES", few):
                    self.assertEqual(book_of(program), book)
                    again = [inner_table(program, context[2], site) for context in book for site in program.calls[:2]]
                    self.assertEqual(again, inner)
            self.assertIs(is_book(program, book), True)

    def test_derivations(self):
        found = 0
        samples = [(program, 9) for program in programs(74, 40)]
        samples += [(program, 47) for program in programs(75, 5, 6, 4, 3, 3, 10)]
        for at, (program, step) in enumerate(samples):
            for context in contexts(program, at)[::step]:
                for few in (0, 2):
                    with mock.patch("answeredabove.know.solvers.FEW_TABLES", few):
                        found += self.check(program, context)
        self.assertGreater(found, 60)

    def test_derivations_of_what_is_taken_over(self):
        # In these a fact is first known of a context under a table within its own one.
        for seed, places in ((1, (5, 9, 12, 15, 36, 55)), (3, (4,)), (6, (27,)), (7, (11, 47, 54)), (8, (11,))):
            samples = programs(seed, 60, 6, 4, 3, 3, 10)
            for place in places:
                for context in contexts(samples[place], place)[::17]:
                    told = all_told(samples[place], context)
                    with mock.patch("answeredabove.know.solvers.FEW_TABLES", 0):
                        self.assertEqual(all_told(samples[place], context), told)
                        self.check(samples[place], context)

    def check(self, program, context):
        """How many facts of a context are true; each one has a derivation."""
        found = 0
        leaves, escapes = does(program, *context)
        for fact in facts(program, *context):
            value = derivation_of(program, fact)
            self.assertIs(value is not None, fact[4] in leaves if fact[0] == "leaves" else fact[4:] in escapes)
            if value is not None:
                found += 1
                self.assertIs(is_derivation(program, value), True)
                end = run_of(program, value).situation
                self.assertEqual(end, (fact[-1], (), None if fact[0] == "leaves" else fact[4]))
        return found


class TestLimit(Checks):
    def test_just_where_more_tables_are_met(self):
        refused = 0
        for at, program in enumerate(programs(76, 120) + programs(77, 30, 6, 4, 3, 3, 10)):
            for context in contexts(program, at)[::13]:
                many = len({each[2] for each in Oracle(program, [context]).met})
                for limit in (1, 2, 4):
                    refused += many > limit
                    for few in (0, 20, 250):
                        self.check(program, context, limit, few, many > limit)
        self.assertGreater(refused, 50)

    def check(self, program, context, limit, few, right):
        with mock.patch("answeredabove.know.meetings.MOST_TABLES", limit):
            with mock.patch("answeredabove.know.solvers.FEW_TABLES", few):
                for call in (does, reached, contexts_met):
                    if right:
                        self.assertEqual(self.refuse(TooMany, call, program, *context).limit, limit)
                    else:
                        call(program, *context)


if __name__ == "__main__":
    unittest.main()
