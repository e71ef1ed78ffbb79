"""Promises [0.21], [11.1], [11.2] and stage 11: answers inside of answers."""

import random
import unittest

from answeredabove.ask.nests import MAX_DEPTH, deep_run, deepest, depth_paper, is_depth_paper
from answeredabove.ask.watch import Answers
from answeredabove.base.programs import Procedure, Program
from answeredabove.errors import InvalidNumber, InvalidProgram, TooMany
from answeredabove.know.books import book_of, is_book
from answeredabove.know.tables import empty_table
from answeredabove.run.runs import Run
from tests.crowds import branching, set_out
from tests.helpers import BOOLS, FIX, NEED, NO_PROGRAMS, ODD, PASS, Checks
from tests.oracle import Oracle
from tests.samples import lively, programs
from tests.test_does import MIXED
from tests.test_ends import TWO
from tests.test_situations import NEST
from tests.test_watch import AGAIN, BARE, BOTH, long_way
from tests.wander import Wander

EMPTY = ((), ())
ROOT, FIXED, WORKED = ("main", 0, EMPTY), ("fix", 0, EMPTY), ("work", 0, ((1,), (1,)))
# For NEED: just what is needed.
NUMBERS = {ROOT: (1, {}), WORKED: (0, {("need", 0): 0}), FIXED: (0, {})}
TWICE = Run.own(PASS, 0, (0, 0, 1, 0))
SAMPLES = [NEED, PASS, NEST, MIXED, TWO, AGAIN, BOTH, BARE, *programs(91, 60), *lively(92, 80), *lively(93, 20, 5, 3)]
NO_NUMBERS = [value for value in ODD + BOOLS if not (type(value) is int and 0 <= value <= 40)] + [
    41, -1, "0", (0,), [0], {0: 0}, FIX, (), None,
]


def tower(*heights):
    """A program whose depth is the greatest 2 ** height, for up to four heights below 7.

    `pa` raises; ahead of the raise that escapes from the next one each time twice as many, and one, are open.
    """
    names = ["pa", "pb", "pc", "pd", "pe", "pf", "pg"]
    made = [Procedure("pa", 2, ("raise", 0, 1, "ask", (0,)), ("leave", 1, (0,)))]
    for name, below in zip(names[1:max(heights) + 1], names):
        made.append(Procedure(name, 2, ("call", 0, 1, below, (0,), (("ask", below, ()),)), ("leave", 1, (0,))))
    calls = [("call", at, at + 1, names[height], (0,), (("ask", "ok", ()),)) for at, height in enumerate(heights)]
    main = Procedure("main", 6, *calls, ("leave", len(heights), (0,)))
    return Program(1, (0,), ("ask",), main, *made, Procedure("ok", 1, ("leave", 0, (0,))))


def nested_tower(*heights):
    """A program whose depth is the sum of 2 ** height: what answers at the end of one tower begins the next one.

    At the end of the last one `pa` answers, and raises the signal again, so that nobody answers it.
    """
    names = ["pa", "pb", "pc", "pd", "pe", "pf", "pg"]
    made = [each for each in tower(max(heights)).procedures if each.called not in ("main", "ok")]
    doors = ["main", "xa", "xb"][:len(heights)]
    for door, behind, height in zip(doors[::-1], ["pa"] + doors[:0:-1], heights[::-1]):
        call = ("call", 0, 1, names[height], (0,), (("ask", behind, ()),))
        made.insert(0, Procedure(door, 2, call, ("leave", 1, (0,))))
    return Program(1, (0,), ("ask",), *made)


def depth_of(run):
    """How many raises are open at the end of a run."""
    return len([entry for entry in run.situation[1] if len(entry) == 3])


def calls_by(program, book, context):
    """The calls to which a context comes by a book, as pairs of the move and the context of what is called."""
    told = Oracle.__new__(Oracle)
    told.program, told.states, told.steps = program, {}, {}
    told.told = {each: (set(leaves), set(escapes)) for each, (leaves, escapes) in book.items()}
    told.follow(context)
    name, _, table = context
    return [
        (move, (move[3], mode, told.inner(table, move))) for move in program[name].moves if move[0] == "call"
        for point, mode in sorted(told.states[context]) if point == move[1] and mode in move[4]
    ]


def holds(program, book, numbers):
    """Whether numbers of the right form make a count book of a book, by the words of [11.2]."""
    for context, (most, counts) in numbers.items():
        if any(most < number for number in counts.values()):
            return False
        for move, called in calls_by(program, book, context):
            if called not in numbers or most < numbers[called][0]:
                return False
            answers = {signal: by for signal, by, _ in move[5]}
            for signal, mode in book[called][1]:
                one = numbers[called][1][(signal, mode)]
                if signal not in answers:
                    if counts[(signal, mode)] < one:
                        return False
                    continue
                answering = (answers[signal], mode, context[2])
                if answering not in numbers or most < one + 1 + numbers[answering][0]:
                    return False
                for escape, two in numbers[answering][1].items():
                    if counts[escape] < one + 1 + two:
                        return False
    return True


def changed_numbers(draw, numbers):
    """The numbers with one of them changed, or without one of their contexts."""
    context = draw.choice(sorted(numbers))
    most, counts = numbers[context]
    if draw.random() < 0.15:
        return {each: numbers[each] for each in numbers if each != context}
    by = draw.choice((-1, -1, 1, 2))
    if counts and draw.random() < 0.6:
        escape = draw.choice(sorted(counts))
        return {**numbers, context: (most, {**counts, escape: max(0, counts[escape] + by)})}
    return {**numbers, context: (max(0, most + by), counts)}


class TestDeepest(Checks):
    def test_the_examples(self):
        self.assertEqual([deepest(NEED), deepest(PASS)], [1, "endless"])
        self.assertEqual(MAX_DEPTH, 40)

    def test_by_hand(self):
        self.assertEqual([deepest(made) for made in (BARE, TWO, BOTH, AGAIN)], [0, 1, 1, 2])
        self.assertEqual(deepest(NEED.without_answers(NEED.answers)), 0)
        self.assertEqual([deepest(tower(height)) for height in range(7)], [1, 2, 4, 8, 16, 32, 64])
        self.assertEqual(deepest(tower(3, 0, 4, 2)), 16)
        self.assertEqual([deepest(nested_tower(5, 3)), deepest(nested_tower(5, 3, 0))], [40, 41])
        self.assertEqual([deepest(nested_tower(0, 5)), deepest(nested_tower(2, 1))], [33, 6])

    def test_calls_that_are_deep_but_open_no_raises(self):
        loop = Program(1, (0,), (), Procedure("p", 2, ("call", 0, 1, "p", (0,), ()), ("leave", 0, (0,))))
        self.assertEqual(deepest(loop), 0)
        # The answer calls what raises, and answers it, again and again.
        made = Program(
            1, (0,), ("ask",), Procedure("main", 2, ("call", 0, 1, "low", (0,), (("ask", "main", ()),))),
            Procedure("low", 1, ("raise", 0, 0, "ask", (0,))),
        )
        self.assertEqual(deepest(made), "endless")
        self.assertEqual(deepest(made.with_procedure(Procedure("low", 1, ("raise", 0, 0, "ask", (0,)))
                                                     ).without_answers(made.answers)), 0)

    def test_what_is_not_met_in_own_runs_does_not_count(self):
        made = Program(2, (0,), ("need",), *NEED.procedures[:2], Procedure(
            "fix", 2, ("call", 0, 1, "fix", (1,), (("need", "fix", ()),)), ("raise", 0, 0, "need", (1,)),
            ("leave", 0, (0,)),
        ))
        self.assertEqual(deepest(made), 1)
        self.assertEqual(deepest(made.with_procedure(Procedure("work", 1, ("raise", 0, 0, "need", (0, 1)),
                                                               ("go", 0, 0, ((0, 1),))))), "endless")

    def test_against_runs(self):
        told = []
        for program in SAMPLES:
            most, seen = deepest(program), Wander(program)
            told.append(most)
            if most != "endless":
                self.assertLessEqual(seen.depth, most)
                self.assertIs(type(most), int)
            if seen.whole:
                self.assertEqual(seen.depth, most)
            self.assertIs(most == 0, len(Answers(program)) == 0)
        for most in (0, 1, 2, "endless"):
            self.assertIn(most, told)

    def test_many_tables(self):
        for made in (set_out(9), branching(""), branching("answers call main")):
            self.assertEqual(self.refuse(TooMany, deepest, made).limit, 200)
            for call in (deep_run, depth_paper):
                self.assertEqual(self.refuse(TooMany, call, made, 0).limit, 200)
                self.refuse(InvalidNumber, call, made, 41)
            self.assertIs(is_depth_paper(made, 0, ("run", Run.own(made, 0, ()))), True)
            self.refuse(InvalidNumber, is_depth_paper, made, -1, None)

    def test_no_program(self):
        for value in NO_PROGRAMS:
            self.refuse(InvalidProgram, deepest, value)


class TestDeepRun(Checks):
    def test_the_examples(self):
        self.assertIsNone(deep_run(NEED, 2))
        self.assertGreaterEqual(depth_of(deep_run(PASS, 9)), 9)
        self.assertEqual(TWICE.situation[1][2:], (("deep", 1, 1), ("pass", 0, 0)))

    def test_each_number(self):
        for program in SAMPLES[::2] + [nested_tower(5, 3), nested_tower(5, 3, 0), tower(4)]:
            most = deepest(program)
            for many in (0, 1, 2, 3, 7, 16, 17, 39, 40):
                run = deep_run(program, many)
                self.assertIs(run is None, most != "endless" and many > most)
                if run is not None:
                    self.check(program, run, many)

    def check(self, program, run, many):
        self.assertEqual(run, Run.own(program, run.situations[0][0], run.choices))
        self.assertGreaterEqual(depth_of(run), many)

    def test_long_runs(self):
        for steps in (500, 1000):
            made = long_way(steps)
            self.assertEqual(len(deep_run(made, 1)), steps)
            self.assertEqual(depth_paper(made, 1)[0], "run")
            self.assertIsNone(deep_run(made, 2))
        made = long_way(1002)
        self.assertEqual(deepest(made), 1)
        for call in (deep_run, depth_paper):
            self.assertEqual(self.refuse(TooMany, call, made, 1).limit, 1000)
            call(made, 0)
            call(made, 2)

    def test_errors_in_their_order(self):
        rows = (NEED, InvalidProgram, None, NO_PROGRAMS), (1, InvalidNumber, "value", NO_NUMBERS)
        self.check_order(deep_run, *rows)
        self.check_order(depth_paper, *rows)
        for value in (("run", TWICE), None):
            self.check_order(lambda program, many: is_depth_paper(program, many, value), *rows)


class TestPapers(Checks):
    def test_the_examples(self):
        self.assertEqual(depth_paper(NEED, 2)[0], "counts")
        self.assertIs(is_depth_paper(PASS, 2, ("run", TWICE)), True)
        self.assertIs(is_depth_paper(PASS, 3, ("run", TWICE)), False)
        self.assertIs(is_depth_paper(PASS, 9, ("run", deep_run(PASS, 9))), True)

    def test_exactly_one_kind(self):
        for program in SAMPLES + [nested_tower(5, 3), nested_tower(5, 3, 0), tower(1, 3)]:
            most = deepest(program)
            for many in (0, 1, 2, 3, 40):
                paper = depth_paper(program, many)
                self.assertEqual(paper[0], "run" if most == "endless" or most >= many else "counts")
                self.assertIs(is_depth_paper(program, many, paper), True)
                if paper[0] == "counts":
                    self.assertEqual(len(paper), 3)
                    self.assertIs(is_book(program, paper[1]), True)
                    self.assertIs(holds(program, paper[1], paper[2]), True)
                    self.assertEqual(list(paper[2]), sorted(paper[2]))
                    for _, counts in paper[2].values():
                        self.assertEqual(list(counts), sorted(counts))
                    self.assertIs(is_depth_paper(program, most, paper), False)
                    self.assertIs(is_depth_paper(program, most + 1, paper), True)

    def test_runs_of_something_else(self):
        deep = Run.own(NEED, 0, (0, 0))
        for run, many, right in (
            (deep, 0, True), (deep, 1, True), (deep, 2, False), (deep + 0, 1, True), (deep.back(), 1, False),
            (deep.back(), 0, True), (Run.own(PASS, 0, (0, 0, 1, 0)), 1, False), ((deep + 0) + 0, 1, False),
            (Run(NEED, "work", 0, EMPTY), 0, False), (Run(NEED, "main", 1, EMPTY), 0, False),
            (Run(NEED, "main", 0, ((1,), ())), 0, False), (Run(NEED, "main", 0, EMPTY), 0, True),
            (Run(NEED.with_starts((0, 1)), "main", 0, EMPTY, 0, 0), 1, False),
        ):
            self.assertIs(is_depth_paper(NEED, many, ("run", run)), right)

    def test_counts_by_hand(self):
        book = book_of(NEED)
        for many in (2, 3, 40):
            self.assertIs(is_depth_paper(NEED, many, ("counts", book, NUMBERS)), True)
        for many in (0, 1):
            self.assertIs(is_depth_paper(NEED, many, ("counts", book, NUMBERS)), False)
        other = ("fix", 1, EMPTY)
        for numbers, right in (
            ({**NUMBERS, ROOT: (2, {})}, False), ({**NUMBERS, ROOT: (0, {})}, False),
            ({**NUMBERS, FIXED: (1, {})}, False), ({**NUMBERS, WORKED: (0, {("need", 0): 1})}, False),
            ({**NUMBERS, WORKED: (1, {("need", 0): 0})}, True), ({**NUMBERS, WORKED: (1, {("need", 0): 1})}, False),
            ({**NUMBERS, other: (0, {})}, True), ({**NUMBERS, other: (10 ** 39, {})}, True),
            ({**NUMBERS, ("work", 1, EMPTY): (0, {("need", 1): 0})}, False), ({}, False), ({ROOT: (1, {})}, False),
            ({ROOT: (1, {}), WORKED: NUMBERS[WORKED]}, False), ({ROOT: (1, {}), FIXED: (0, {})}, False),
            ({WORKED: NUMBERS[WORKED], FIXED: (0, {})}, False), ({**NUMBERS, WORKED: (0, {})}, False),
            ({**NUMBERS, WORKED: (0, {("need", 0): 0, ("need", 1): 0})}, False),
            ({**NUMBERS, ROOT: (1, {("need", 0): 0})}, False), ({**NUMBERS, WORKED: (0, {("need", 1): 0})}, False),
        ):
            self.assertIs(is_depth_paper(NEED, 2, ("counts", book, numbers)), right, numbers)
        self.assertIs(is_depth_paper(NEED, 3, ("counts", book, {**NUMBERS, ROOT: (2, {})})), True)
        self.assertIs(is_depth_paper(NEED, 4, ("counts", book, {**NUMBERS, ROOT: (2, {}), FIXED: (1, {})})), True)
        # What is needed is told in any order.
        self.assertIs(is_depth_paper(NEED, 2, ("counts", book, dict(sorted(NUMBERS.items(), reverse=True)))), True)

    def test_books_that_tell_more(self):
        more = {**book_of(NEED), FIXED: ((0, 1), (("need", 1),)), ROOT: ((0, 1), (("need", 1),))}
        self.assertIs(is_book(NEED, more), True)
        numbers = {ROOT: (1, {("need", 1): 1}), WORKED: NUMBERS[WORKED], FIXED: (0, {("need", 1): 0})}
        self.assertIs(is_depth_paper(NEED, 2, ("counts", more, numbers)), True)
        self.assertIs(is_depth_paper(NEED, 2, ("counts", more, NUMBERS)), False)
        low = {**numbers, ROOT: (1, {("need", 1): 0})}
        self.assertIs(is_depth_paper(NEED, 2, ("counts", more, low)), False)
        less = {each: pair for each, pair in book_of(NEED).items() if each != FIXED}
        self.assertIs(is_depth_paper(NEED, 2, ("counts", less, NUMBERS)), False)
        wrong = {**book_of(NEED), ROOT: ((0,), ())}
        self.assertIs(is_depth_paper(NEED, 2, ("counts", wrong, NUMBERS)), False)

    def test_escapes_that_only_the_book_tells(self):
        more = {**book_of(NEED), WORKED: ((1,), (("need", 0), ("need", 1)))}
        self.assertIs(is_book(NEED, more), True)
        numbers = {**NUMBERS, WORKED: (0, {("need", 0): 0, ("need", 1): 0})}
        self.assertIs(is_depth_paper(NEED, 2, ("counts", more, numbers)), False)
        other = ("fix", 1, EMPTY)
        self.assertIs(is_depth_paper(NEED, 2, ("counts", more, {**numbers, other: (0, {})})), True)
        self.assertIs(is_depth_paper(NEED, 2, ("counts", more, {**numbers, other: (1, {})})), False)

    def test_what_nothing_needs_is_left_out(self):
        made = NEED.with_starts((1,))
        self.assertEqual([deepest(made), depth_paper(made, 1)[0]], [0, "counts"])
        book = {**book_of(NEED), ("main", 1, EMPTY): ((1,), ())}
        self.assertIs(is_depth_paper(made, 1, ("counts", book, {("main", 1, EMPTY): (0, {})})), True)
        self.assertIs(is_depth_paper(made, 1, ("counts", book, {("main", 1, EMPTY): (0, {}), **NUMBERS})), True)
        self.assertIs(is_depth_paper(made, 1, ("counts", book, NUMBERS)), False)

    def test_both_starts_count(self):
        made = NEED.with_starts((0, 1))
        book = book_of(made)
        other = ("main", 1, EMPTY)
        self.assertIs(is_depth_paper(made, 2, ("counts", book, {**NUMBERS, other: (0, {})})), True)
        self.assertIs(is_depth_paper(made, 2, ("counts", book, {**NUMBERS, other: (1, {})})), True)
        self.assertIs(is_depth_paper(made, 2, ("counts", book, {**NUMBERS, other: (2, {})})), False)
        self.assertIs(is_depth_paper(made, 2, ("counts", book, NUMBERS)), False)

    def test_numbers_are_judged_by_the_words(self):
        draw = random.Random(94)
        right = wrong = 0
        for program in SAMPLES:
            most = deepest(program)
            if most == "endless":
                continue
            book, numbers = depth_paper(program, most + 1)[1:]
            roots = [(program.main, start, empty_table(program)) for start in program.starts]
            for _ in range(12):
                other = changed_numbers(draw, numbers)
                if draw.random() < 0.3:
                    other = changed_numbers(draw, other) if other else other
                holding = holds(program, book, other)
                right, wrong = right + holding, wrong + (not holding)
                for many in (0, 1, 2, 3, 40):
                    expected = holding and all(root in other and other[root][0] < many for root in roots)
                    self.assertIs(is_depth_paper(program, many, ("counts", book, other)), expected)
        self.assertGreater(min(right, wrong), 100)

    def test_numbers_by_anyone(self):
        # All numbers as great as they may be, where nothing is answered.
        for program in SAMPLES:
            if deepest(program) == 0:
                book = book_of(program)
                numbers = {each: (7, {escape: 7 for escape in book[each][1]}) for each in book}
                self.assertIs(is_depth_paper(program, 7, ("counts", book, numbers)), False)
                self.assertIs(is_depth_paper(program, 8, ("counts", book, numbers)), holds(program, book, numbers))

    def test_other_values(self):
        book, run = book_of(NEED), Run.own(NEED, 0, (0, 0))
        for value in ODD + BOOLS + [
            0, (), ("run",), ("counts",), ("counts", book), ("run", book), ("run", run, run), ("counts", run),
            ["run", run], ("counts", NUMBERS, book), ("counts", book, list(NUMBERS)), ("counts", book, None),
            ("counts", None, NUMBERS), ("counts", [book], NUMBERS), ("run", run.choices), ("run", NEED), (run, "run"),
            ("deep", run), ("deep", book, NUMBERS), ("counts", book, NUMBERS, 0), ["counts", book, NUMBERS], run,
            (("run",), run), (["counts"], book, NUMBERS), (None, run), ("counts", (), ()), book, NUMBERS,
        ]:
            for many in (1, 2):
                self.assertIs(is_depth_paper(NEED, many, value), False, value)

    def test_wrong_parts_of_numbers(self):
        book = book_of(NEED)
        for odd in ODD + BOOLS + [(0,), (0, 0), (0, ()), (0, [], 0), [0, {}], (0, None)]:
            for context in NUMBERS:
                value = {**NUMBERS, context: odd}
                self.assertIs(is_depth_paper(NEED, 40, ("counts", book, value)), False, value)
        for odd in ODD + BOOLS + ["0", (0,)]:
            if type(odd) is int and odd >= 0:
                continue
            for value in (
                {**NUMBERS, ROOT: (odd, {})}, {**NUMBERS, WORKED: (0, {("need", 0): odd})},
                {**NUMBERS, WORKED: (odd, {("need", 0): 0})}, {**NUMBERS, WORKED: (0, odd)},
            ):
                if odd != {} or value[WORKED] != NUMBERS[WORKED]:
                    self.assertIs(is_depth_paper(NEED, 40, ("counts", book, value)), False, value)
        false = ("main", False, EMPTY)
        for value in (
            {false: (1, {}), WORKED: NUMBERS[WORKED], FIXED: (0, {})}, {**NUMBERS, "main": (0, {})},
            {**NUMBERS, WORKED: (0, {("need", False): 0})}, {**NUMBERS, WORKED: (False, {("need", 0): 0})},
            {**NUMBERS, ROOT: (True, {})}, {**NUMBERS, WORKED: (0, {("need", 0): False})}, {**NUMBERS, None: (0, {})},
            {**NUMBERS, ("fix", 1, EMPTY, 0): (0, {})}, {**NUMBERS, 0: (0, {})}, {**NUMBERS, (): (0, {})},
            {**NUMBERS, WORKED: (0, {("need", 0): 0, None: 0})}, {**NUMBERS, WORKED: (0, {"need": 0})},
        ):
            self.assertIs(is_depth_paper(NEED, 40, ("counts", book, value)), False, value)


if __name__ == "__main__":
    unittest.main()
