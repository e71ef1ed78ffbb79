"""Stage 2: programs that differ from an elder one, which stays as it was."""

import unittest

from answeredabove.base.programs import Procedure, Program
from answeredabove.errors import InvalidOperation, UnknownName, UnknownSite
from tests.helpers import BOOLS, DEEP, FIX, FULL, MAIN, NEED, ODD, PASS, WIDE, WORK, spoiled

IDLE = Procedure("idle", 1)
CALL = ("main", 0)


def snapshot(program):
    """All that a program tells of itself."""
    parts = (program.modes, program.starts, program.signals, program.procedures, program.names, program.main)
    return parts + (program.calls, program.raises, program.answers, str(program), len(program))


class TestCase(unittest.TestCase):
    def setUp(self):
        self.before = [snapshot(program) for program in (NEED, PASS, FULL)]

    def tearDown(self):
        self.assertEqual([snapshot(program) for program in (NEED, PASS, FULL)], self.before)

    def refuse(self, error, call, *arguments):
        with self.assertRaises(error) as caught:
            call(*arguments)
        return caught.exception


class TestStarts(TestCase):
    def test_starts(self):
        for starts in ((0,), (1,), (0, 1)):
            self.assertEqual(NEED.with_starts(starts), Program(2, starts, ("need",), MAIN, WORK, FIX))

    def test_wrong_starts(self):
        for starts in ODD + BOOLS + [(), (2,), (0, 2), (1, 0), (0, 0), [0], 0, (0, True), "0", FIX, {0: 0}]:
            self.refuse(InvalidOperation, NEED.with_starts, starts)


class TestProcedures(TestCase):
    def test_in_the_place_of_another_one(self):
        for at, called in enumerate(NEED.names):
            other = Procedure(called, 1, ("leave", 0, (1,)))
            made = NEED.with_procedure(other)
            self.assertEqual(made.names, NEED.names)
            self.assertEqual(made.procedures, NEED.procedures[:at] + (other,) + NEED.procedures[at + 1:])
            self.assertEqual(made[called], other)

    def test_as_the_last_one(self):
        self.assertEqual(NEED.with_procedure(IDLE), Program(2, (0,), ("need",), MAIN, WORK, FIX, IDLE))

    def test_the_same_one(self):
        self.assertEqual(NEED.with_procedure(WORK), NEED)

    def test_no_procedure(self):
        for value in ODD + BOOLS + [(), "work", 0, ("work", 2, ()), [FIX], (FIX,), NEED]:
            self.refuse(InvalidOperation, NEED.with_procedure, value)

    def test_no_program(self):
        for wrong in (
            Procedure("fix", 1, ("leave", 0, (2,))), Procedure("fix", 1, ("raise", 0, 0, "ask", (0,))),
            Procedure("new", 1, ("call", 0, 0, "gone", (0,), ())), Procedure("new", 1, ("go", 0, 0, ((0, 2),))),
            Procedure("new", 1, ("call", 0, 0, "fix", (0,), (("ask", "fix", ()),))),
        ):
            self.refuse(InvalidOperation, NEED.with_procedure, wrong)

    def test_a_tenth_procedure(self):
        made = NEED
        for letter in "abcdef":
            made = made.with_procedure(Procedure(letter, 1))
        self.assertEqual(len(made), 9)
        self.refuse(InvalidOperation, made.with_procedure, IDLE)
        self.assertEqual(len(made.with_procedure(Procedure("f", 2))), 9)

    def test_a_new_one_may_call_itself(self):
        new = Procedure("new", 1, ("call", 0, 0, "new", (0,), (("need", "new", ()),)))
        self.assertEqual(NEED.with_procedure(new)["new"], new)


class TestWithout(TestCase):
    def test_without(self):
        made = NEED.with_procedure(IDLE)
        self.assertEqual(made.without("idle"), NEED)
        self.assertEqual(NEED.without("main").names, ("work", "fix"))
        self.assertEqual(NEED.without("main").main, "work")

    def test_unknown(self):
        for name in ODD + BOOLS + ["deep", "need", 0, (), MAIN, ["main"], ("main",)]:
            self.assertIs(self.refuse(UnknownName, NEED.without, name).name, name)

    def test_no_program(self):
        for name in ("work", "fix"):
            self.refuse(InvalidOperation, NEED.without, name)
        self.refuse(InvalidOperation, PASS.without, "pass")
        self.refuse(InvalidOperation, Program(1, (0,), (), IDLE).without, "idle")
        self.assertEqual(PASS.without("deep").names, ("pass",))


class TestWithAnswers(TestCase):
    def answered(self, answers):
        move = ("call", 0, 1, "work", (0,), answers)
        return Program(2, (0,), ("need",), Procedure("main", 3, move, *MAIN.moves[1:]), WORK, FIX)

    def test_other_answers(self):
        for answers in (
            (), (("need", "fix", ()),), (("need", "work", ()),), (("need", "main", ((0, 0), (1, 2))),),
            MAIN.moves[0][5],
        ):
            self.assertEqual(NEED.with_answers(CALL, answers), self.answered(answers))

    def test_the_other_moves_stay(self):
        made = FULL.with_answers(("wide", 1), (("need", "wide", ((3, 5),)),))
        move = ("call", 2, 2, "wide", (1,), (("need", "wide", ((3, 5),)),))
        self.assertEqual(made["wide"].moves, (WIDE.moves[0], move, *WIDE.moves[2:]))
        self.assertEqual(made["fix"], FIX)

    def test_no_site_of_a_call(self):
        for site in ODD + BOOLS + [
            "main", (), ("main", 1), ("main", 2), ("main", 3), ("main", -3), ("main", -1), ("main", False),
            ("work", 0), ("fix", 0), ["main", 0], ("main", 0, "need"), ("deep", 0), ("main", "0"), (MAIN, 0),
            ("main", FIX), MAIN, 0,
        ]:
            for answers in ((), None):
                self.assertIs(self.refuse(UnknownSite, NEED.with_answers, site, answers).site, site)

    def test_wrong_answers(self):
        for answers in ODD + BOOLS + [
            [], 0, "", "need", (("ask", "fix", ()),), (("need", "gone", ()),), (("need", "fix", ((2, 0),)),),
            (("need", "fix", ((0, 3),)),), (("need", "fix", ((1, 0), (0, 0))),), (("need", "fix", ((0, 0), (0, 1))),),
            (("need", "fix", ()), ("need", "work", ())), ("need", "fix", ()), (("need", "fix"),),
            (("need", "fix", [(0, 1)]),), (("need", "fix", ((False, 1),)),), (("need", "fix", ((0, True),)),),
            FIX, (FIX,), NEED,
        ]:
            self.refuse(InvalidOperation, NEED.with_answers, CALL, answers)

    def test_every_part_of_a_wrong_kind(self):
        for answers in spoiled((("halt", "fix", ()), ("need", "fix", ((0, 1), (1, 0))))):
            self.refuse(InvalidOperation, FULL.with_answers, ("wide", 0), answers)


class TestWithoutAnswers(TestCase):
    def test_none(self):
        for made in (NEED, PASS, FULL):
            self.assertEqual(made.without_answers(()), made)

    def test_all(self):
        for made in (NEED, PASS, FULL):
            self.assertEqual(made.without_answers(made.answers).answers, ())
            self.assertEqual(made.without_answers(made.answers).calls, made.calls)
        bare = ("call", 0, 1, "deep", (0,), ())
        self.assertEqual(PASS.without_answers(PASS.answers)["deep"], Procedure("deep", 2, bare, *DEEP.moves[1:]))

    def test_some(self):
        for gone in FULL.answers:
            made = FULL.without_answers((gone,))
            self.assertEqual(made.answers, tuple(answer for answer in FULL.answers if answer != gone))
        made = FULL.without_answers((("wide", 0, "stop"), ("wide", 0, "halt")))
        move = ("call", 0, 1, "fix", (0, 3), (("need", "fix", ((0, 2), (1, 0), (3, 5))),))
        self.assertEqual(made["wide"].moves, (move, *WIDE.moves[1:]))

    def test_any_order_and_several_times(self):
        for answers in (FULL.answers, FULL.answers[::-1], FULL.answers * 3):
            self.assertEqual(FULL.without_answers(answers), FULL.without_answers(FULL.answers))

    def test_no_tuple(self):
        for answers in (None, [], {}, "", 0, True, list(NEED.answers), {NEED.answers[0]: 1}, NEED, MAIN, "need"):
            self.assertIs(self.refuse(UnknownSite, NEED.without_answers, answers).site, answers)

    def test_no_answer(self):
        good = ("main", 0, "need")
        for wrong in ODD + BOOLS + [
            (), "need", 0, ("main", 0), ("main", 0, "ask"), ("main", 1, "need"), ("main", False, "need"),
            ["main", 0, "need"], ("work", 0, "need"), ("main", 0, "need", ()), ("gone", 0, "need"),
            ("main", 0, "fix"), ("main", -3, "need"),
            ("main", 0, ["need"]), ("main", 0, None), (MAIN, 0, "need"), ("main", 0, FIX), MAIN, ("main", "0", "need"),
        ]:
            for answers in ((wrong,), (good, wrong), (wrong, good), (good, wrong, ("gone", 0, "need"))):
                self.assertIs(self.refuse(UnknownSite, NEED.without_answers, answers).site, wrong)


class TestRenamed(TestCase):
    def test_nothing(self):
        self.assertEqual(NEED.renamed({}), NEED)
        self.assertEqual(NEED.renamed({"fix": "fix"}), NEED)

    def test_calls_and_answers_follow(self):
        made = NEED.renamed({"fix": "mend", "work": "toil"})
        call = ("call", 0, 1, "toil", (0,), (("need", "mend", ((0, 2),)),))
        self.assertEqual(
            made,
            Program(
                2, (0,), ("need",), Procedure("main", 3, call, *MAIN.moves[1:]), Procedure("toil", 2, *WORK.moves),
                Procedure("mend", 1, *FIX.moves),
            ),
        )

    def test_names_change_places(self):
        made = PASS.renamed({"pass": "deep", "deep": "pass"})
        self.assertEqual(made.names, ("pass", "deep"))
        self.assertEqual(made["pass"].moves[0], ("call", 0, 1, "pass", (0,), (("ask", "deep", ()),)))
        self.assertEqual(made.renamed({"deep": "pass", "pass": "deep"}), PASS)

    def test_signals_stay(self):
        call = ("call", 0, 0, "p", (0,), (("p", "p", ()),))
        made = Program(1, (0,), ("p",), Procedure("p", 1, call, ("raise", 0, 0, "p", (0,))))
        call = ("call", 0, 0, "q", (0,), (("p", "q", ()),))
        self.assertEqual(made.renamed({"p": "q"})["q"].moves, (call, ("raise", 0, 0, "p", (0,))))

    def test_the_dict_stays(self):
        names = {"fix": "mend"}
        made = NEED.renamed(names)
        self.assertEqual(names, {"fix": "mend"})
        names["fix"] = "other"
        self.assertEqual(made.names, ("main", "work", "mend"))

    def test_no_dict(self):
        pair = ("main", "new")
        for names in (None, [], (), "", 0, True, "main", pair, [pair], (pair,), NEED, MAIN):
            self.refuse(InvalidOperation, NEED.renamed, names)

    def test_no_procedures(self):
        for old in ("gone", "need", "", "Main", None, 0, 1, True, -1, ("main",), (), ("main", 0)):
            self.refuse(InvalidOperation, NEED.renamed, {old: "new"})
            self.refuse(InvalidOperation, NEED.renamed, {"main": "new", old: "other"})
            self.refuse(InvalidOperation, NEED.renamed, {old: "other", "main": "new"})

    def test_no_names(self):
        for new in ODD + BOOLS + [(), 0, ("new",), ["new"], MAIN, "abcdefghi", "New"]:
            for old in NEED.names:
                self.refuse(InvalidOperation, NEED.renamed, {old: new})

    def test_equal_names(self):
        self.refuse(InvalidOperation, NEED.renamed, {"main": "work"})
        self.refuse(InvalidOperation, NEED.renamed, {"main": "new", "fix": "new"})


if __name__ == "__main__":
    unittest.main()
