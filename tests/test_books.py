"""Promises [0.19], [8.1] and stage 8: contexts that are met, and books."""

import random
import unittest

from answeredabove.base.programs import Procedure, Program
from answeredabove.errors import InvalidProgram, TooMany
from answeredabove.know.books import book_of, contexts_met, is_book
from answeredabove.know.does import does
from answeredabove.know.tables import empty_table, full_table
from tests.crowds import HOT, branching, crowd, set_out
from tests.helpers import BOOLS, FIX, FULL, NEED, NO_PROGRAMS, ODD, PASS, Checks, changed, nested, part, paths
from tests.oracle import Oracle
from tests.samples import contexts, programs
from tests.test_does import MIXED
from tests.test_situations import NEST

EMPTY = ((), ())
DEEPS, PASSES = ("deep", 0, ((),)), ("pass", 0, ((),))
TRUE = {DEEPS: ((), (("ask", 0),)), PASSES: ((), (("ask", 0),))}


def roots(program):
    return [(program.main, start, empty_table(program)) for start in program.starts]


def closed(program, book):
    """Whether the book, which has the form of one, is one, by the words of [8.1]."""
    told = Oracle.__new__(Oracle)
    told.program, told.states, told.steps = program, {}, {}
    told.told = {context: (set(leaves), set(escapes)) for context, (leaves, escapes) in book.items()}
    for context, (leaves, escapes) in book.items():
        # What follows is added here, and the book is one if nothing was.
        told.follow(context)
        if any(each not in book for each in told.steps[context]):
            return False
        if told.told[context] != (set(leaves), set(escapes)):
            return False
    return True


class TestContextsMet(Checks):
    def test_the_examples(self):
        self.assertEqual(contexts_met(NEED, "work", 1, EMPTY), (("work", 1, EMPTY),))
        self.assertEqual(contexts_met(PASS, "deep", 0, ((),)), (DEEPS, PASSES))

    def test_every_mode_of_an_answer(self):
        inner = ((1,), (1,))
        expected = [("fix", 0, EMPTY), ("fix", 1, EMPTY), ("main", 0, EMPTY), ("work", 0, inner)]
        self.assertEqual(contexts_met(NEED, "main", 0, EMPTY), tuple(expected))
        self.assertEqual(contexts_met(NEED, "main", 1, EMPTY), (("main", 1, EMPTY),))

    def test_ascending_and_true(self):
        for at, program in enumerate(programs(51, 100)):
            for context in contexts(program, at)[::5]:
                found = contexts_met(program, *context)
                self.assertEqual(found, tuple(sorted(Oracle(program, [context]).met)))
                self.assertIn(context, found)


class TestBookOf(Checks):
    def test_the_examples(self):
        book = book_of(NEED)
        self.assertEqual(len(book), 4)
        self.assertEqual(book[("work", 0, ((1,), (1,)))], ((1,), (("need", 0),)))
        self.assertEqual(book_of(PASS), TRUE)

    def test_all_starts_together(self):
        made = NEED.with_starts((0, 1))
        self.assertEqual(set(book_of(made)), set(book_of(NEED)) | {("main", 1, EMPTY)})
        self.assertEqual(book_of(NEED.with_starts((1,))), {("main", 1, EMPTY): ((), ())})

    def test_what_is_true_in_ascending_order(self):
        for program in (NEED, PASS, NEST, MIXED, FULL, *programs(52, 150)):
            book = book_of(program)
            self.assertEqual(list(book), sorted(book))
            told = Oracle(program, roots(program))
            self.assertEqual(set(book), told.met)
            for context, pair in book.items():
                self.assertEqual(pair, tuple(tuple(sorted(each)) for each in told.told[context]))
            self.assertIs(is_book(program, book), True)

    def test_a_new_dict_each_time(self):
        book_of(PASS).clear()
        self.assertEqual(book_of(PASS), TRUE)

    def test_just_200_and_201_tables(self):
        book = book_of(set_out(8))
        self.assertEqual(len({context[2] for context in book}), 200)
        self.assertIs(is_book(set_out(8), book), True)
        self.assertEqual(self.refuse(TooMany, book_of, set_out(9)).limit, 200)
        self.refuse(TooMany, contexts_met, set_out(9), "root", 0, HOT)
        self.assertEqual(len({context[2] for context in contexts_met(set_out(8), "root", 0, HOT)}), 200)

    def test_the_starts_count_together(self):
        made = set_out(4, (0, 1))
        moves = [("call", 0, 0, "wheel", (1,), (("aa", "setb", ()), ("bb", "setb", ()), ("cc", "setb", ())))]
        moves += [(*move[:4], (0,), *move[5:]) if move[0] == "call" else move for move in made["main"].moves]
        made = made.with_procedure(Procedure("main", 2, *moves))
        for start, many in ((0, 197), (1, 65)):
            book = book_of(made.with_starts((start,)))
            self.assertEqual(len({context[2] for context in book}), many)
        # Both meet the empty table, and no other one in common.
        self.refuse(TooMany, book_of, made)

    def test_very_many(self):
        for kind in ("", "answers call main"):
            self.refuse(TooMany, book_of, branching(kind))

    def test_no_program(self):
        for value in NO_PROGRAMS:
            self.refuse(InvalidProgram, book_of, value)


class TestIsBook(Checks):
    def judge(self, program, book, right):
        self.assertIs(is_book(program, book), right, book)
        self.assertIs(closed(program, book), right, book)

    def test_the_examples(self):
        more = {DEEPS: ((0,), (("ask", 0),)), PASSES: ((), (("ask", 0),))}
        self.assertEqual([is_book(PASS, more), is_book(PASS, {PASSES: ((), ())}), is_book(PASS, {})],
                         [True, False, True])

    def test_the_empty_dict(self):
        for program in (NEED, PASS, NEST, FULL, *programs(53, 10)):
            self.judge(program, {}, True)

    def test_more_than_what_is_true_but_nothing_less(self):
        for leaves in ((), (0,)):
            for escapes in ((), (("ask", 0),)):
                for other in ((), (0,)):
                    for others in ((), (("ask", 0),)):
                        book = {DEEPS: (leaves, escapes), PASSES: (other, others)}
                        if other == ():
                            self.judge(PASS, book, escapes != () and others != ())

    def test_what_is_told_of_an_answer_makes_another_inner_table(self):
        # If pass can be left in 0, the inner table of the call has 0, and the book needs this context, too.
        book = {DEEPS: ((0,), (("ask", 0),)), PASSES: ((0,), (("ask", 0),))}
        self.judge(PASS, book, False)
        inner = ((0,),)
        book[("deep", 0, inner)] = ((0,), (("ask", 0),))
        self.judge(PASS, book, False)
        book[("pass", 0, inner)] = ((0,), (("ask", 0),))
        self.judge(PASS, book, True)

    def test_a_context_that_is_missing(self):
        for program in (NEED, PASS, NEST, MIXED):
            book = book_of(program)
            for context in book:
                left = {each: book[each] for each in book if each != context}
                self.judge(program, left, closed(program, left))
                self.assertIs(is_book(program, left), context in roots(program))

    def test_only_what_is_come_to_is_needed(self):
        self.judge(NEED, {("main", 1, EMPTY): ((), ())}, True)
        self.judge(NEED, {("main", 0, EMPTY): ((), ())}, False)
        self.judge(NEED, {("fix", 0, EMPTY): ((0, 1), ())}, True)
        self.judge(NEED, {("fix", 0, EMPTY): ((0,), ())}, False)
        self.judge(NEED, {("fix", 1, EMPTY): ((1,), ())}, True)

    def test_the_order_of_the_keys_does_not_matter(self):
        for program in (NEED, NEST, *programs(54, 20)):
            book = book_of(program)
            self.judge(program, {context: book[context] for context in reversed(book)}, True)

    def test_samples_that_are_changed(self):
        draw = random.Random(9)
        judged = []
        for at, program in enumerate(programs(55, 300)):
            book = book_of(program)
            for _ in range(8):
                context = draw.choice(list(book))
                leaves, escapes = set(book[context][0]), set(book[context][1])
                leaves ^= {draw.randrange(program.modes)}
                if program.signals and draw.random() < 0.5:
                    escapes ^= {(draw.choice(program.signals), draw.randrange(program.modes))}
                other = {**book, context: (tuple(sorted(leaves)), tuple(sorted(escapes)))}
                judged.append(is_book(program, other))
                self.judge(program, other, judged[-1])
        self.assertGreater(judged.count(True), 100)
        self.assertGreater(judged.count(False), 100)

    def test_everything_told_of_all_contexts_under_the_full_table(self):
        for program in programs(56, 30):
            # Answers that unwind make other inner tables.
            full = full_table(program)
            pair = (tuple(range(program.modes)), tuple(
                (signal, mode) for signal in program.signals for mode in range(program.modes)
            ))
            book = {(name, mode, full): pair for name in program.names for mode in range(program.modes)}
            self.judge(program, book, closed(program, book))

    def test_other_values(self):
        for value in ODD + BOOLS + [
            0, (), [TRUE], (TRUE,), list(TRUE), tuple(TRUE.items()), FIX, {"deep": ((), ())}, {0: 0}, {None: None},
            {DEEPS: None}, {DEEPS[:2]: ((), ())}, {(): ()},
        ]:
            self.assertIs(is_book(PASS, value), False if value != {} else True, value)
        self.assertIs(is_book(PASS, nested(dict, 12)), False)

    def test_each_part_of_a_key_of_a_wrong_kind(self):
        for context in TRUE:
            for path in paths(context):
                for odd in ODD + BOOLS + [1, 2, (1,), "main", FIX]:
                    try:
                        other = {changed(context, path, odd): ((), ())}
                    except TypeError:
                        continue
                    if list(other) not in ([context], [()]):
                        self.assertIs(is_book(PASS, {**TRUE, **other}), False, other)

    def test_each_part_of_a_value_of_a_wrong_kind(self):
        book = {DEEPS: ((0,), (("ask", 0),)), PASSES: ((), (("ask", 0),))}
        for context, pair in book.items():
            for path in paths(pair):
                here = part(pair, path)
                wrong = ODD + BOOLS + [1, "main", FIX, (here,), [here], list(here) if isinstance(here, tuple) else ""]
                for odd in wrong:
                    self.assertIs(is_book(PASS, {**book, context: changed(pair, path, odd)}), False, (path, odd))
        for pair in (
            ((0, 0), (("ask", 0),)), ((0,), (("ask", 0), ("ask", 0))), ((0,), (("ask", 1),)), ((1,), (("ask", 0),)),
            ((0,), (("ask",),)), ((0,), ("ask", 0)), ((0,), (("ask", 0, 0),)), ((0,),), ((0,), (("ask", 0),), ()),
            ((0,), (("deep", 0),)), ((False,), (("ask", 0),)), ((0,), (("ask", False),)), {0: 0}, "",
        ):
            self.assertIs(is_book(PASS, {**book, DEEPS: pair}), False, pair)

    def test_leaves_and_escapes_that_do_not_ascend(self):
        context = ("never", 0, HOT)
        made = crowd(0)
        for leaves, escapes, right in (
            ((0, 1), (("aa", 0), ("aa", 1), ("bb", 0)), True), ((1, 0), (), False), ((), (("aa", 1), ("aa", 0)), False),
            ((0, 0), (), False), ((), (("bb", 0), ("aa", 0)), False), ((), (("aa", 0), ("aa", 0)), False),
            ((3,), (("cc", 3),), True), ((4,), (), False), ((), (("cc", 4),), False),
        ):
            self.assertIs(is_book(made, {context: (leaves, escapes)}), right, (leaves, escapes))

    def test_the_value_stays(self):
        book = {PASSES: ((), (("ask", 0),)), DEEPS: ((0,), (("ask", 0),))}
        is_book(PASS, book)
        self.assertEqual(list(book.items()), [(PASSES, ((), (("ask", 0),))), (DEEPS, ((0,), (("ask", 0),)))])

    def test_more_than_200_tables(self):
        # A book can be judged whatever its size.
        made = crowd(9)
        found = Oracle(made, [("root", 0, HOT)])
        book = {context: tuple(tuple(sorted(each)) for each in found.told[context]) for context in found.met}
        self.assertEqual(len({context[2] for context in book}), 201)
        self.assertIs(is_book(made, book), True)
        left = {context: book[context] for context in book if context != ("turnaa", 0, HOT)}
        self.assertIs(is_book(made, left), False)

    def test_no_program(self):
        for value in NO_PROGRAMS:
            for book in (TRUE, {}, None):
                self.refuse(InvalidProgram, is_book, value, book)


if __name__ == "__main__":
    unittest.main()
