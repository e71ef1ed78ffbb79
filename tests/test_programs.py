"""Promises [0.8], [0.10] and stage 2: programs, and what they tell of themselves."""

import unittest

from answeredabove.base.programs import Procedure, Program
from answeredabove.errors import InvalidProgram, UnknownName, UnknownSite
from tests.helpers import BOOLS, DEEP, FIX, FULL, MAIN, NEED, ODD, PASS, WIDE, WORK

IDLE = Procedure("idle", 1)


class TestCase(unittest.TestCase):
    def accept(self, modes, starts, signals, *procedures):
        for made in (Program(modes, starts, signals, *procedures), Program.of(modes, starts, signals, procedures)):
            self.assertEqual((made.modes, made.starts, made.signals), (modes, starts, signals))
            self.assertEqual(made.procedures, procedures)

    def refuse(self, modes, starts, signals, *procedures):
        with self.assertRaises(InvalidProgram):
            Program(modes, starts, signals, *procedures)
        with self.assertRaises(InvalidProgram):
            Program.of(modes, starts, signals, procedures)


class TestParts(TestCase):
    def test_example_programs(self):
        for made in (NEED, PASS, FULL):
            self.accept(made.modes, made.starts, made.signals, *made.procedures)

    def test_modes(self):
        for modes in range(1, 5):
            self.accept(modes, (0,), (), IDLE)
            self.accept(modes, (modes - 1,), (), IDLE)
            self.refuse(modes, (modes,), (), IDLE)
        for modes in ODD + BOOLS + [0, 5, "1", (1,), (), FIX]:
            self.refuse(modes, (0,), (), IDLE)

    def test_starts(self):
        for starts in ((0,), (1,), (2,), (0, 1), (0, 2), (0, 1, 2)):
            self.accept(3, starts, (), IDLE)
        more = [(), 0, 1, (3,), (0, 3), (1, 1), (1, 0), (0, True), [0], "0", {0: 0}, (0, "1"), FIX]
        for starts in ODD + BOOLS + more:
            self.refuse(3, starts, (), IDLE)

    def test_signals(self):
        for signals in ((), ("a",), ("abcdefgh",), ("a", "b"), ("a", "b", "c"), ("ab", "b"), ("idle",)):
            self.accept(1, (0,), signals, IDLE)
        for signals in (
            ("b", "a"), ("a", "a"), ("a", "c", "b"), ("a", "b", "c", "d"), ("b", "ab"), ("A",), ("",), (0,), ("a", 0),
            ("a", None), ["a"], "a", "", {"a": 1}, (("a",),), None, [], (FIX,), ("abcdefghi",), ("a\n",),
        ):
            self.refuse(1, (0,), signals, IDLE)
        for signals in ODD + BOOLS + [0, 1, FIX]:
            self.refuse(1, (0,), signals, IDLE)

    def test_procedures(self):
        many = tuple(Procedure("p" + letter, 1) for letter in "abcdefghij")
        for count in range(1, 10):
            self.accept(1, (0,), (), *many[:count])
        self.refuse(1, (0,), ())
        self.refuse(1, (0,), (), *many)
        self.refuse(1, (0,), (), many[0], many[1], many[0])
        self.refuse(1, (0,), (), IDLE, Procedure("idle", 2))
        for odd in ODD + BOOLS + [0, "idle", (), (IDLE,), ("idle", 1, ())]:
            self.refuse(1, (0,), (), odd)
            self.refuse(1, (0,), (), IDLE, odd)
            self.refuse(1, (0,), (), odd, IDLE)

    def test_of_takes_a_tuple(self):
        for procedures in ODD + BOOLS + [(), [IDLE], {"idle": IDLE}, IDLE, NEED, "idle", ((IDLE,),), ([IDLE],)]:
            with self.assertRaises(InvalidProgram):
                Program.of(1, (0,), (), procedures)


class TestMovesOfPrograms(TestCase):
    def test_modes_of_moves(self):
        for move in (
            ("go", 0, 0, ((0, 2),)), ("go", 0, 0, ((2, 0),)), ("call", 0, 0, "p", (0, 2), ()),
            ("raise", 0, 0, "s", (2,)), ("leave", 0, (1, 2)), ("call", 0, 0, "p", (0,), (("s", "p", ((2, 0),)),)),
        ):
            self.accept(3, (0,), ("s",), Procedure("p", 1, move))
            self.accept(4, (0,), ("s",), Procedure("p", 1, move))
            self.refuse(2, (0,), ("s",), Procedure("p", 1, move))
            self.refuse(2, (0,), ("s",), Procedure("q", 1, ("leave", 0, (0,))), Procedure("p", 1, move))

    def test_called_procedures_are_there(self):
        one = Procedure("p", 1, ("call", 0, 0, "q", (0,), ()))
        self.refuse(1, (0,), (), one)
        self.refuse(1, (0,), ("q",), one)
        self.accept(1, (0,), (), one, Procedure("q", 1))
        self.accept(1, (0,), (), Procedure("q", 1), one)
        self.accept(1, (0,), (), Procedure("p", 1, ("call", 0, 0, "p", (0,), ())))

    def test_procedures_of_answers_are_there(self):
        one = Procedure("p", 1, ("call", 0, 0, "p", (0,), (("s", "q", ()),)))
        self.refuse(1, (0,), ("s",), one)
        self.refuse(1, (0,), ("q", "s"), one)
        self.accept(1, (0,), ("s",), one, Procedure("q", 1))

    def test_signals_are_there(self):
        raising = Procedure("p", 1, ("raise", 0, 0, "s", (0,)))
        answering = Procedure("p", 1, ("call", 0, 0, "p", (0,), (("s", "p", ()),)))
        for one in (raising, answering):
            self.accept(1, (0,), ("s",), one)
            self.accept(1, (0,), ("r", "s", "t"), one)
            self.refuse(1, (0,), (), one)
            self.refuse(1, (0,), ("p",), one)
            self.refuse(1, (0,), ("r", "t"), one)

    def test_four_answers_are_one_too_many(self):
        answers = tuple((signal, "p", ()) for signal in "abcd")
        one = Procedure("p", 1, ("call", 0, 0, "p", (0,), answers))
        self.assertEqual(len(one.moves[0][5]), 4)
        self.refuse(1, (0,), ("a", "b", "c"), one)


class TestWhatItTells(unittest.TestCase):
    def test_document(self):
        self.assertEqual(
            [NEED.main, NEED.answers, PASS.raises, NEED.calls, str(NEED), NEED.without_answers(NEED.answers).answers],
            [
                "main", (("main", 0, "need"),), (("deep", 1), ("pass", 0)), (("main", 0),),
                "program of 3 procedures, 2 modes, 1 signals", (),
            ],
        )

    def test_names(self):
        self.assertEqual(NEED.names, ("main", "work", "fix"))
        self.assertEqual(FULL.names, ("wide", "fix"))
        self.assertEqual([PASS.main, FULL.main], ["deep", "wide"])

    def test_sites_in_order(self):
        self.assertEqual(FULL.calls, (("wide", 0), ("wide", 1), ("wide", 4)))
        self.assertEqual(FULL.raises, (("wide", 2), ("wide", 5)))
        self.assertEqual(
            FULL.answers, (("wide", 0, "halt"), ("wide", 0, "need"), ("wide", 0, "stop"), ("wide", 4, "stop")),
        )
        turned = Program(4, (0,), FULL.signals, FIX, WIDE, Procedure("again", 1, ("raise", 0, 0, "halt", (3,))))
        self.assertEqual(turned.raises, (("wide", 2), ("wide", 5), ("again", 0)))

    def test_nothing_there(self):
        made = Program(1, (0,), (), IDLE)
        self.assertEqual((made.calls, made.raises, made.answers, made.signals), ((), (), (), ()))

    def test_text(self):
        self.assertEqual(str(Program(1, (0,), (), IDLE)), "program of 1 procedures, 1 modes, 0 signals")
        self.assertEqual(str(FULL), "program of 2 procedures, 4 modes, 3 signals")

    def test_procedure_of_a_name(self):
        self.assertEqual([NEED["main"], NEED["work"], NEED["fix"], PASS["deep"]], [MAIN, WORK, FIX, DEEP])
        for name in ODD + BOOLS + ["deep", "need", 0, (), FIX, ("main",), ["main"]]:
            with self.assertRaises(UnknownName) as caught:
                NEED[name]
            self.assertIs(caught.exception.name, name)

    def test_move_at_a_site(self):
        for procedure in FULL.procedures:
            for index, move in enumerate(procedure.moves):
                self.assertEqual(FULL.move((procedure.called, index)), move)
        for site in ODD + BOOLS + [
            "main", 0, (), ("main",), ("main", 3), ("main", -1), ("main", True), ("main", False), ("main", "0"),
            ("main", None),
            ("main", 0, 0), ["main", 0], ("deep", 0), (0, "main"), ("main", (0,)), (["main"], 0), (FIX, 0),
            ("main", FIX),
            ("main", 10 ** 39), {"main": 0}, (("main", 0),), FIX,
        ]:
            with self.assertRaises(UnknownSite) as caught:
                NEED.move(site)
            self.assertIs(caught.exception.site, site)

    def test_contains(self):
        for name in ("main", "work", "fix"):
            self.assertIs(name in NEED, True)
        for value in ODD + BOOLS + ["deep", "need", "Main", "main\n", 0, 1, (), MAIN, ("main",), ["main"]]:
            self.assertIs(value in NEED, False)
            self.assertIs(value not in NEED, True)

    def test_len(self):
        self.assertEqual([len(NEED), len(PASS), len(FULL)], [3, 2, 2])

    def test_equal(self):
        for made in (NEED, PASS, FULL):
            same = Program.of(made.modes, made.starts, made.signals, made.procedures)
            self.assertTrue(made == same)
            self.assertFalse(made != same)

    def test_unequal(self):
        for other in (
            Program(3, (0,), ("need",), MAIN, WORK, FIX), Program(2, (0, 1), ("need",), MAIN, WORK, FIX),
            Program(2, (0,), ("ask", "need"), MAIN, WORK, FIX), Program(2, (0,), ("need",), MAIN, FIX, WORK),
            Program(2, (0,), ("need",), MAIN, WORK, FIX, IDLE), PASS,
            Program(2, (0,), ("need",), MAIN, WORK, Procedure("fix", 2, *FIX.moves)),
        ):
            self.assertFalse(NEED == other)
            self.assertTrue(NEED != other)

    def test_equals_every_value(self):
        for value in [odd for odd in ODD if odd is not NEED] + BOOLS + [(), 0, 1, "main", NEED.procedures, MAIN]:
            self.assertIs(NEED == value, False)
            self.assertIs(NEED != value, True)
            self.assertIs(value == NEED, False)

    def test_cannot_be_iterated_over(self):
        for use in (iter, list, tuple, sorted):
            with self.assertRaises(TypeError):
                use(NEED)

    def test_never_changes(self):
        for name in ("modes", "starts", "signals", "procedures", "names", "main", "calls", "raises", "answers"):
            with self.assertRaises(AttributeError):
                setattr(NEED, name, getattr(PASS, name))
        self.assertEqual(NEED.names, ("main", "work", "fix"))


class TestInterface(unittest.TestCase):
    def test_where_it_is_defined(self):
        listed = {
            Procedure: ("of", "called", "points", "moves", "__eq__", "__len__", "__str__"),
            Program: (
                "of", "modes", "starts", "signals", "procedures", "names", "main", "calls", "raises", "answers", "move",
                "__getitem__", "with_starts", "with_procedure", "without", "with_answers", "without_answers", "renamed",
                "__contains__", "__len__", "__eq__", "__str__",
            ),
        }
        for kind, methods in listed.items():
            self.assertEqual(kind.__module__, "answeredabove.base.programs")
            for name in methods:
                self.assertIn(name, vars(kind))


if __name__ == "__main__":
    unittest.main()
