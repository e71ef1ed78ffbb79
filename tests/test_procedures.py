"""Promises [0.9], [0.10] and stage 2: procedures."""

import unittest

from answeredabove.base.programs import Procedure
from answeredabove.errors import InvalidProgram
from tests.helpers import BOOLS, DEEP, FIX, MAIN, NEED, ODD, PASS, WIDE, WORK, changed, paths, part, spoiled

GO = ("go", 0, 1, ((0, 1), (1, 0)))
CALL = ("call", 0, 1, "q", (0, 1), (("ask", "p", ()), ("need", "q", ((0, 0), (1, 1)))))
RAISE = ("raise", 0, 1, "need", (0, 1))
LEAVE = ("leave", 1, (0, 1))
MOVES = (GO, CALL, RAISE, LEAVE)


class TestCase(unittest.TestCase):
    def accept(self, called, points, *moves):
        for made in (Procedure(called, points, *moves), Procedure.of(called, points, moves)):
            self.assertEqual((made.called, made.points, made.moves), (called, points, moves))

    def refuse(self, called, points, *moves):
        with self.assertRaises(InvalidProgram):
            Procedure(called, points, *moves)
        with self.assertRaises(InvalidProgram):
            Procedure.of(called, points, moves)


class TestWholes(TestCase):
    def test_names(self):
        for name in ("a", "abcdefgh", "go"):
            self.accept(name, 1)
        for name in ODD + BOOLS + ["abcdefghi", "", "P", 0, (), FIX, ("p",)]:
            self.refuse(name, 1)

    def test_points(self):
        for points in range(1, 7):
            self.accept("p", points)
        for points in ODD + BOOLS + [0, 7, "1", (1,), (), FIX]:
            self.refuse("p", points)

    def test_numbers_of_moves(self):
        for many in range(13):
            self.accept("p", 2, *[LEAVE] * many)
        for many in (13, 14, 40):
            self.refuse("p", 2, *[LEAVE] * many)

    def test_of_takes_a_tuple(self):
        for moves in ODD + BOOLS + [None, 0, list(MOVES), {LEAVE: 1}, {}, "", LEAVE, FIX]:
            with self.assertRaises(InvalidProgram):
                Procedure.of("p", 2, moves)
        self.assertEqual(Procedure.of("p", 2, ()), Procedure("p", 2))

    def test_each_move_is_checked(self):
        for at in range(4):
            for odd in ODD + BOOLS + [(), "leave", FIX, list(LEAVE)]:
                self.refuse("p", 2, *MOVES[:at], odd, *MOVES[at:])


class TestMoves(TestCase):
    def test_moves(self):
        self.accept("p", 2, *MOVES)
        self.accept("p", 6, *WIDE.moves)

    def test_every_part_of_a_wrong_kind(self):
        for move in MOVES:
            for wrong in spoiled(move):
                self.refuse("p", 2, wrong)

    def test_booleans_are_no_integers(self):
        for move in MOVES:
            for path in paths(move):
                if part(move, path) in (0, 1):
                    self.refuse("p", 2, changed(move, path, bool(part(move, path))))

    def test_shorter_moves(self):
        for move in MOVES:
            for many in range(len(move)):
                self.refuse("p", 2, move[:many])

    def test_kinds(self):
        for kind in ("Go", "goes", "raises", "", "GO", "call ", "leave\n", 0, None):
            for move in MOVES:
                self.refuse("p", 2, (kind, *move[1:]))
        for move in MOVES:
            for other in MOVES:
                if move != other:
                    self.refuse("p", 2, (other[0], *move[1:]))

    def test_points_of_moves(self):
        for points in range(1, 7):
            for move in (("go", 0, 0, ((0, 0),)), ("call", 0, 0, "p", (0,), ()), ("raise", 0, 0, "p", (0,))):
                self.accept("p", points, (move[0], points - 1, points - 1, *move[3:]))
                self.refuse("p", points, (move[0], points, 0, *move[3:]))
                self.refuse("p", points, (move[0], 0, points, *move[3:]))
                self.refuse("p", points, (move[0], -1, 0, *move[3:]))
                self.refuse("p", points, (move[0], 0, -1, *move[3:]))
            self.accept("p", points, ("leave", points - 1, (0,)))
            self.refuse("p", points, ("leave", points, (0,)))
            self.refuse("p", points, ("leave", -1, (0,)))

    def test_mode_sets_of_moves(self):
        for modes in ((0,), (3,), (0, 1, 2, 3), (1, 3)):
            self.accept("p", 2, ("call", 0, 1, "q", modes, ()), ("raise", 0, 1, "s", modes), ("leave", 1, modes))
        for modes in ((), (4,), (0, 4), (-1, 0), (1, 0), (0, 0), [0], 0, (0, True), (False, 1), None, "0", (0, None)):
            self.refuse("p", 2, ("call", 0, 1, "q", modes, ()))
            self.refuse("p", 2, ("raise", 0, 1, "s", modes))
            self.refuse("p", 2, ("leave", 1, modes))

    def test_pairs_of_a_go(self):
        every = tuple((old, new) for old in range(4) for new in range(4))
        for pairs in (((0, 0),), ((3, 3),), ((0, 0), (0, 1)), ((0, 3), (1, 0)), every):
            self.accept("p", 1, ("go", 0, 0, pairs))
        for pairs in (
            (), ((0, 4),), ((4, 0),), ((0, 1), (0, 0)), ((0, 0), (0, 0)), ((1, 0), (0, 1)), ((0, 0, 0),), ((0,),),
            ((),), (0, 0), [(0, 0)], ([0, 0],), ((0, True),), ((False, 0),), ((0, "0"),), ((0, 0), None),
            ((0, 0), (0, "1")),
        ):
            self.refuse("p", 1, ("go", 0, 0, pairs))

    def test_names_of_moves(self):
        for name in ("a", "abcdefgh", "other"):
            self.accept("p", 1, ("call", 0, 0, name, (0,), ()), ("raise", 0, 0, name, (0,)))
        for name in ODD + BOOLS + ["abcdefghi", 0, (), FIX]:
            self.refuse("p", 1, ("call", 0, 0, name, (0,), ()))
            self.refuse("p", 1, ("raise", 0, 0, name, (0,)))


class TestAnswersOfCalls(TestCase):
    def call(self, answers):
        return ("call", 0, 1, "q", (0,), answers)

    def test_answers(self):
        for answers in (
            (), (("a", "b", ()),), (("a", "p", ()), ("b", "p", ()), ("c", "p", ())), (("ab", "p", ()), ("b", "p", ())),
            (("abcdefgh", "abcdefgh", ()),), (("need", "need", ((0, 0), (1, 1), (2, 0), (3, 1))),),
        ):
            self.accept("p", 2, self.call(answers))

    def test_signals_ascend(self):
        for answers in (
            (("b", "p", ()), ("a", "p", ())), (("a", "p", ()), ("a", "q", ())), (("a", "p", ()), ("a", "p", ())),
            (("a", "p", ()), ("c", "p", ()), ("b", "p", ())), (("b", "p", ()), ("ab", "p", ())),
        ):
            self.refuse("p", 2, self.call(answers))

    def test_unwinds(self):
        for unwinds in ((), ((0, 0),), ((3, 1),), ((0, 1), (1, 0)), ((1, 1), (3, 1))):
            self.accept("p", 2, self.call((("a", "q", unwinds),)))
        for unwinds in (
            ((0, 2),), ((4, 0),), ((-1, 0),), ((0, -1),), ((1, 0), (0, 0)), ((0, 0), (0, 1)), ((0, 0), (0, 0)),
            ((0,),), ((0, 0, 0),), (0, 0), [(0, 0)], ([0, 0],), ((False, 0),), ((0, True),), ((0, None),), None,
            0, "", {},
        ):
            self.refuse("p", 2, self.call((("a", "q", unwinds),)))

    def test_points_are_those_of_the_caller(self):
        for points in range(1, 7):
            self.accept("p", points, ("call", 0, 0, "q", (0,), (("a", "q", ((0, points - 1),)),)))
            self.refuse("p", points, ("call", 0, 0, "q", (0,), (("a", "q", ((0, points),)),)))

    def test_wrong_answers(self):
        for answers in (
            None, [], {}, "", 0, True, (None,), ((),), ("a", "q", ()), (("a", "q"),), (("a", "q", (), ()),),
            (["a", "q", ()],), [("a", "q", ())], (("A", "q", ()),), (("a", "Q", ()),), ((0, "q", ()),),
            (("a", 0, ()),),
            ((FIX, "q", ()),), (("a", FIX, ()),), (("a", "q", FIX),), FIX, NEED, (FIX,), {("a", "q", ()): 1},
        ):
            self.refuse("p", 2, self.call(answers))


class TestWhatItTells(unittest.TestCase):
    def test_text(self):
        self.assertEqual(str(Procedure("p", 2, *MOVES)), "procedure p, 2 points, 4 moves")
        self.assertEqual(str(Procedure("abcdefgh", 1)), "procedure abcdefgh, 1 points, 0 moves")
        self.assertEqual(str(Procedure("q", 6, LEAVE)), "procedure q, 6 points, 1 moves")

    def test_len(self):
        self.assertEqual([len(FIX), len(MAIN), len(WIDE), len(Procedure("p", 1))], [2, 3, 8, 0])
        self.assertEqual(len(Procedure("p", 2, *[LEAVE] * 12)), 12)

    def test_equal(self):
        for made in (FIX, WORK, MAIN, DEEP, WIDE):
            same = Procedure.of(made.called, made.points, made.moves)
            self.assertTrue(made == same)
            self.assertFalse(made != same)

    def test_unequal(self):
        one = Procedure("p", 2, LEAVE, RAISE)
        for other in (
            Procedure("q", 2, LEAVE, RAISE), Procedure("p", 3, LEAVE, RAISE), Procedure("p", 2, RAISE, LEAVE),
            Procedure("p", 2, LEAVE), Procedure("p", 2, LEAVE, RAISE, RAISE), Procedure("p", 2),
        ):
            self.assertFalse(one == other)
            self.assertTrue(one != other)

    def test_equals_every_value(self):
        for value in ODD + BOOLS + [(), 0, 1, "p", ("p", 2, ()), PASS]:
            self.assertIs(FIX == value, False)
            self.assertIs(FIX != value, True)
            self.assertIs(value == FIX, False)

    def test_cannot_be_iterated_over(self):
        for made in (FIX, Procedure("p", 1)):
            with self.assertRaises(TypeError):
                iter(made)
            with self.assertRaises(TypeError):
                list(made)

    def test_never_changes(self):
        for name in ("called", "points", "moves"):
            with self.assertRaises(AttributeError):
                setattr(FIX, name, getattr(WORK, name))
        self.assertEqual((FIX.called, FIX.points), ("fix", 1))

    def test_copies_what_it_keeps(self):
        moves = [LEAVE]
        made = Procedure("p", 2, *moves)
        moves.append(RAISE)
        self.assertEqual(made.moves, (LEAVE,))
        self.assertIsInstance(made.moves, tuple)


if __name__ == "__main__":
    unittest.main()
