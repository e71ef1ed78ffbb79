"""Promises [0.22], [13.1], [13.2] and stage 13: procedures alike."""

import itertools
import unittest

from answeredabove.ask.ends import outcome
from answeredabove.base.programs import Procedure, Program
from answeredabove.errors import InvalidMode, InvalidOperation, InvalidProgram, InvalidTable, TooMany, UnknownName
from answeredabove.know.does import does
from answeredabove.know.tables import empty_table, full_table, is_table
from answeredabove.same.alike import are_alike, is_parting, parting, surrounding
from answeredabove.same.editions import replaced
from tests.crowds import pairing
from tests.helpers import BOOLS, FIX, FULL, NEED, NO_PROGRAMS, ODD, PASS, Checks
from tests.samples import contexts, lively, programs
from tests.test_does import EMPTY, MIXED
from tests.test_ends import TWO
from tests.test_runs import NO_NAMES
from tests.test_situations import NEST
from tests.test_tables import NO_MODES, NO_TABLES
from tests.test_watch import AGAIN, BARE, BOTH

QUIET = NEED.with_procedure(Procedure("work", 2, ("raise", 0, 1, "need", (0, 1)), ("leave", 1, (0, 1))))
# Written otherwise: by more points and moves, and by a call of another procedure.
OTHERWISE = Program(
    2, (1,), ("need",), *[each for each in NEED.procedures if each.called != "work"],
    Procedure("work", 4, ("go", 0, 3, ((0, 0), (1, 1))), ("raise", 3, 2, "need", (0, 1)), ("leave", 1, (0,)),
              ("leave", 2, (1,)), ("raise", 3, 2, "need", (0,)), ("go", 1, 1, ((0, 1),))),
)
CALLING = Program(
    2, (0,), ("need",), Procedure("work", 2, ("call", 0, 1, "done", (0, 1), ()), ("leave", 1, (0, 1))),
    Procedure("done", 2, ("raise", 0, 1, "need", (0, 1)), ("leave", 1, (1,))),
)
# 2 to the power of 3 * 2 * 2 tables, and of 1 * 4 * 4.
MANY = Program(2, (0,), ("aa", "bb", "cc"), Procedure("p", 1, ("leave", 0, (0, 1))))
MORE = Program(4, (0,), ("aa",), Procedure("p", 1, ("leave", 0, (0, 1))))
NO_PARTINGS = ODD + BOOLS + [
    0, (), (0,), (0, EMPTY, 0), (2, EMPTY), (-1, EMPTY), (True, ((0,), ())), (0, ((0,),)), (0, ((0,), (), ())),
    (0, ((2,), ())), (0, [(0,), ()]), [0, ((0,), ())], (0, ((False,), ())), (((0,), ()), 0), (0, None), (None, ((0,), ())),
    ("0", ((0,), ())), (0, ((0, 0), ())), (FIX, ((0,), ())), (0, FIX), (0, 0),
]


def all_tables(program):
    """All tables of a program."""
    entries = [each for many in range(program.modes + 1) for each in itertools.combinations(range(program.modes), many)]
    return itertools.product(entries, repeat=len(program.signals) * program.modes)


def partings(one, other, name):
    """All pairs of a mode and a table with which the procedure does otherwise, by the words of [13.1]."""
    return [
        (mode, table) for table in all_tables(one) for mode in range(one.modes)
        if does(one, name, mode, table) != does(other, name, mode, table)
    ]


class TestSurrounding(Checks):
    def test_the_examples(self):
        around = surrounding(NEED, "work", 0, ((1,), ()))
        self.assertEqual(outcome(around), ((1,), (("need", 0),)))
        self.assertEqual(around.names, ("outer", "answa", "main", "work", "fix"))
        self.assertEqual(does(NEED, "work", 0, ((1,), ())), ((1,), (("need", 0),)))

    def test_just_as_told(self):
        table = ((0, 2), (), (1,), (), (), ())
        around = surrounding(NEST, "mid", 2, table)
        self.assertEqual([around.modes, around.starts, around.signals], [3, (2,), ("need", "stop")])
        self.assertEqual(around.procedures, (
            Procedure("outer", 2, ("call", 0, 1, "mid", (2,), (("need", "answa", ()), ("stop", "answb", ()))),
                      ("leave", 1, (0, 1, 2))),
            Procedure("answa", 2, ("raise", 0, 0, "need", (0, 1, 2)), ("go", 0, 1, ((0, 0), (0, 2), (2, 1))),
                      ("leave", 1, (0, 1, 2))),
            Procedure("answb", 2, ("raise", 0, 0, "stop", (0, 1, 2)), ("leave", 1, (0, 1, 2))),
        ) + NEST.procedures)
        bare = surrounding(BARE, "p", 1, ())
        self.assertEqual(bare.procedures[0], Procedure("outer", 2, ("call", 0, 1, "p", (1,), ()), ("leave", 1, (0, 1))))
        self.assertEqual(bare.names, ("outer", "p"))
        three = surrounding(MANY, "p", 0, full_table(MANY))
        self.assertEqual(three.names, ("outer", "answa", "answb", "answc", "p"))

    def test_its_outcome_is_what_the_procedure_does(self):
        for at, program in enumerate([NEED, PASS, NEST, MIXED, TWO, AGAIN, BOTH, BARE, *programs(101, 50),
                                      *lively(102, 50)]):
            for name, mode, table in contexts(program, at, 3)[::3]:
                self.assertEqual(outcome(surrounding(program, name, mode, table)), does(program, name, mode, table))

    def test_no_program_around(self):
        nine = Program(1, (0,), ("ask",), *[Procedure(f"p{letter}", 1) for letter in "abcdefghi"])
        self.refuse(InvalidOperation, surrounding, nine, "pa", 0, ((),))
        eight = nine.without("pi")
        self.refuse(InvalidOperation, surrounding, eight, "pa", 0, ((),))
        self.assertEqual(len(surrounding(eight.without("ph"), "pa", 0, ((),))), 9)
        bare = Program(1, (0,), (), *eight.procedures)
        self.assertEqual(len(surrounding(bare, "pa", 0, ())), 9)
        for taken in ("outer", "answa"):
            self.refuse(InvalidOperation, surrounding, PASS.renamed({"pass": taken}), "deep", 0, ((),))
            self.refuse(InvalidOperation, surrounding, PASS.renamed({"pass": taken}), taken, 0, ((),))
        for free in ("answb", "answc", "answ", "outers"):
            self.assertIn(free, surrounding(PASS.renamed({"pass": free}), free, 0, ((),)))
        self.assertIn("answa", surrounding(BARE.renamed({"p": "answa"}), "answa", 0, ()))

    def test_errors_in_their_order(self):
        self.check_order(
            surrounding, (NEED, InvalidProgram, None, NO_PROGRAMS), ("work", UnknownName, "name", NO_NAMES[:-1]),
            (0, InvalidMode, None, NO_MODES), (EMPTY, InvalidTable, None, NO_TABLES),
        )
        taken = PASS.renamed({"pass": "outer"})
        self.refuse(UnknownName, surrounding, taken, "pass", 0, ((),))
        self.refuse(InvalidMode, surrounding, taken, "outer", 1, ((),))
        self.refuse(InvalidTable, surrounding, taken, "outer", 0, ())


class TestAlike(Checks):
    def test_the_examples(self):
        self.assertEqual([are_alike(NEED, NEED, "work"), are_alike(NEED, QUIET, "work")], [True, False])
        self.assertEqual([is_parting(NEED, QUIET, "work", (0, ((0,), ()))), is_parting(NEED, QUIET, "work", (0, ((1,), ())))],
                         [True, False])

    def test_written_otherwise(self):
        for other in (OTHERWISE, CALLING):
            self.assertIs(are_alike(NEED, other, "work"), True)
            self.assertIs(are_alike(other, NEED, "work"), True)
            self.assertIsNone(parting(NEED, other, "work"))
            self.assertIs(are_alike(QUIET, other, "work"), False)
        self.assertIs(are_alike(NEED, OTHERWISE, "main"), True)
        self.assertIs(are_alike(NEED, NEED.with_starts((0, 1)), "main"), True)

    def test_by_the_words(self):
        alike = 0
        found = [(NEED, QUIET), (QUIET, NEED), (NEED, OTHERWISE), (PASS, PASS), (BARE, BARE), (AGAIN, AGAIN)]
        samples = programs(103, 60, 3, 2, 1, 3, 5) + lively(104, 40, 3, 2, 1)
        for one in samples:
            for other in samples[:8]:
                if (one.modes, one.signals) == (other.modes, other.signals) and set(other.names) <= set(one.names):
                    found.append((one, one.with_procedure(other.procedures[0])))
        for one, other in found:
            for name in [each for each in one.names if each in other]:
                parts = partings(one, other, name)
                alike += parts == []
                self.assertIs(are_alike(one, other, name), parts == [])
                pair = parting(one, other, name)
                self.assertIs(pair is None, parts == [])
                if parts:
                    self.assertIn(pair, parts)
                    for value in all_tables(one):
                        for mode in range(one.modes):
                            self.assertIs(is_parting(one, other, name, (mode, value)), (mode, value) in parts)
        self.assertGreater(alike, 30)

    def test_alike_procedures_can_stand_for_one_another(self):
        # No program around them tells them apart.
        for name in ("work", "main"):
            for mode, table in itertools.product((0, 1), all_tables(NEED)):
                around = surrounding(NEED, name, mode, table)
                self.assertEqual(outcome(replaced(around, OTHERWISE, "work")), outcome(around))
        self.assertEqual(outcome(replaced(NEED, OTHERWISE, "work")), outcome(NEED))
        self.assertNotEqual(outcome(surrounding(QUIET, "work", *parting(NEED, QUIET, "work"))),
                            outcome(surrounding(NEED, "work", *parting(NEED, QUIET, "work"))))

    def test_other_values(self):
        for value in NO_PARTINGS:
            self.assertIs(is_parting(NEED, QUIET, "work", value), False, value)
        self.assertIs(is_parting(NEED, QUIET, "work", (0, ((0,), (0, 1)))), True)

    def test_many_tables(self):
        self.assertIs(are_alike(MANY, MANY, "p"), True)
        other = MANY.with_procedure(Procedure("p", 2, ("leave", 0, (0, 1)), ("raise", 0, 1, "cc", (1,)),
                                              ("raise", 1, 1, "bb", (1,))))
        found = parting(MANY, other, "p")
        self.assertEqual(found[0], 1)
        self.assertIs(is_table(MANY, found[1]), True)
        late = other.with_procedure(Procedure("p", 2, ("leave", 0, (0, 1)), ("raise", 0, 1, "cc", (1,)),
                                              ("raise", 1, 1, "bb", (0,))))
        self.assertIs(are_alike(other, late, "p"), False)
        mode, table = parting(other, late, "p")
        self.assertNotEqual(does(other, "p", mode, table), does(late, "p", mode, table))
        for call in (are_alike, parting):
            self.assertEqual(self.refuse(TooMany, call, MORE, MORE, "p").limit, 4096)
            self.assertEqual(self.refuse(TooMany, call, FULL, FULL, "fix").limit, 4096)
        self.assertIs(is_parting(MORE, MORE, "p", (0, empty_table(MORE))), False)
        other = MORE.with_procedure(Procedure("p", 1, ("leave", 0, (0, 1, 2))))
        self.assertIs(is_parting(MORE, other, "p", (2, empty_table(MORE))), True)

    def test_many_tables_that_are_met(self):
        crowded = pairing(8)
        self.assertIs(are_alike(crowded, crowded, "hs"), True)
        calm = pairing(5)
        for one, other in ((crowded, crowded), (crowded, calm), (calm, crowded)):
            for call in (are_alike, parting):
                self.assertEqual(self.refuse(TooMany, call, one, other, "p").limit, 200)
            self.assertEqual(self.refuse(TooMany, is_parting, one, other, "p", (0, ((),) * 3)).limit, 200)
            # Under this table half as many are met.
            self.assertIs(is_parting(one, other, "p", (0, ((0,), (), ()))), False)
            self.assertIs(is_parting(one, other, "p", (1, ((),) * 3)), False)
            self.assertIs(is_parting(one, other, "p", (3, ((),) * 3)), False)
            self.assertIs(is_parting(one, other, "p", None), False)
        self.assertIs(are_alike(crowded, calm, "hs"), True)
        # That they differ is no way out of it.
        other = calm.with_procedure(Procedure("p", 1))
        for one, two in ((crowded, other), (other, crowded)):
            self.assertEqual(self.refuse(TooMany, are_alike, one, two, "p").limit, 200)

    def test_errors_in_their_order(self):
        rows = [(NEED, InvalidProgram, None, NO_PROGRAMS), (QUIET, InvalidProgram, None, NO_PROGRAMS),
                ("work", UnknownName, "name", NO_NAMES)]
        self.check_order(are_alike, *rows)
        self.check_order(parting, *rows)
        for value in ((0, ((0,), ())), None):
            self.check_order(lambda one, other, name: is_parting(one, other, name, value), *rows)

    def test_programs_that_do_not_fit(self):
        more = Program(2, (0,), ("need", "stop"), *NEED.procedures)
        wide = Program(3, (0,), ("need",), *NEED.procedures)
        other = Program(2, (0,), ("needs",), Procedure("work", 1))
        gone = NEED.without_answers(NEED.answers).without("fix")
        for call in (are_alike, parting, lambda *values: is_parting(*values, None)):
            for one, two in ((NEED, more), (more, NEED), (NEED, wide), (wide, NEED), (NEED, other), (MORE, MANY)):
                self.refuse(InvalidOperation, call, one, two, "p" if one == MORE else "work")
            for one, two in ((NEED, gone), (gone, NEED), (gone, gone), (gone, wide), (MORE, gone)):
                self.assertEqual(self.refuse(UnknownName, call, one, two, "fix").name, "fix")


if __name__ == "__main__":
    unittest.main()
